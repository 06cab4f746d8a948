/-
  The law FrameGets tells true of any bytes, and turns nothing that was there.
  Conditions: none.
-/
import Derived.Test.YtnfiaibfhfpmjaaLives3
import Derived.Test.YtnfiaibfhfpmjaaRefFrame
import Derived.Test.YtnfiaibfhfpmjaaZeros
import Derived.Laws.OwnMore
namespace Go.Proofs.Ytnfiaibfhfpmjaa
open Go.RowKit

theorem fgets_few (A : Option Addr) (c n : Nat) (long : Bool) (w : World) (hm : n ≤ 9223372036854775807) (h : 300 < n) :
    Calls Try.prog 4 #[.slice A n c, .bool long] w (Told2 true w) := by
  have hnot : ∀ (x : Bool) (w : World), (Op.unary .not (.bool x)).run Try.prog w = .ok (.bool (!x)) w := fun _ _ => rfl
  go_enter Try.func4, Try.ntmps4
  go_wp2_with fail
  with_reducible refine (lives3_calls w).mono ?_
  rintro e w1 ⟨rfl, ht1⟩
  have H1 := Lib.hid ht1
  clear ht1
  go_wp2_with fail
  with_reducible refine (lives3_calls w1).mono ?_
  rintro e w2 ⟨rfl, ht2⟩
  have H2 : Hid (Turns (fun _ => False) w w2) := H1.out.next ht2 (fun _ _ f => f)
  clear ht2
  go_wp2
  go_ret
  exact ⟨rfl, H2.out⟩

set_option maxRecDepth 100000 in
set_option maxHeartbeats 1000000 in
theorem fgets_plain (A : Option Addr) (c : Nat) (bl : List UInt8) (w : World) (hr : RdC w (.slice A bl.length c) bl) (hn : bl.length ≤ 300) :
    Calls Try.prog 4 #[.slice A bl.length c, .bool false] w (Told2 true w) := by
  have hnot : ∀ (x : Bool) (w : World), (Op.unary .not (.bool x)).run Try.prog w = .ok (.bool (!x)) w := fun _ _ => rfl
  have hl : bl.length ≤ 9223372036854775807 := by omega
  have hl2 : bl.length ≤ 549755813888 := by omega
  have HL := Lib.hid hl
  have HL2 := Lib.hid hl2
  have HR := Lib.hid hr
  clear hr hl hl2
  go_enter Try.func4, Try.ntmps4
  go_wp2_with fail
  with_reducible refine (lives3_calls w).mono ?_
  rintro e w1 ⟨rfl, ht1⟩
  have HTU := Lib.hid ht1
  have HRC := Lib.hid (HR.out.still ht1)
  clear ht1 HR
  go_wp2_with fail
  with_reducible refine (fnew_calls w1).mono ?_
  rintro e w4 ⟨B, rfl, hB, hT4, ht4⟩
  have HT4 := Lib.hid hT4
  have HR4 := Lib.hid (HRC.out.still ht4)
  have hap : bl ≠ [] → ∀ k, (Value.slice A bl.length c).ownBlock = some k → ¬ k = B := fun hne k hk e => by
    have := HRC.out.1.lt hne k hk
    omega
  have HAP := Lib.hid hap
  have HTU4 : Hid (Turns (fun _ => False) w w4) := HTU.out.next ht4 (fun _ _ f => f)
  have hBw : w.heap.size ≤ B := Nat.le_trans HTU.out.size hB
  clear hT4 ht4 HRC HTU hap
  go_wp2_with fail
  with_reducible refine (fget_calls B false _ bl w4 HT4.out HR4.out HL.out).mono ?_
  rintro e w5 ⟨v5, rfl, hv5, hm5⟩
  have hrd : Rd w5 v5 (if fgetE bl = 0 then bodyOf bl else []) := by
    by_cases hz : fgetE bl = 0
    · rw [if_pos hz] at hv5 ⊢; exact hv5
    · rw [if_neg hz] at hv5 ⊢; subst hv5; exact rd_nil _
  have HTU5 : Hid (Turns (fun _ => False) w w5) := HTU4.out.next hm5.2 (fun i hi hs => by omega)
  have hr5 := (HR4.out.turns hm5.2 (fun hne k hk hs => HAP.out hne k hk hs)).1
  have hst5 := hr5.string (P := Try.prog) (src := 22) (dst := 9) Try.underlying22 Try.underlying5 Try.underlying9
  have HRF := Lib.hid (refget_calls bl w5 HL2.out)
  unfold RefGets at HRF
  generalize (if fgetE bl = 0 then bodyOf bl else []) = bd at *
  generalize (if fgetE bl = 0 then ((bl.getD 1 0).toNat : Int) else 0) = kk at *
  generalize fgetE bl = E at *
  have HRD := Lib.hid hrd
  obtain ⟨A5, c5, rfl⟩ := hrd.shape
  clear hrd hv5 hm5 hr5 HT4 HR4 HTU4 HAP
  go_wp2_with fail
  with_reducible refine HRF.out.mono ?_
  rintro e w6 ⟨rfl, ht6⟩
  have hst6 := (HRD.out.still ht6).string (P := Try.prog) (src := 22) (dst := 9) Try.underlying22 Try.underlying5 Try.underlying9
  have HF : Hid (Turns (fun _ => False) w w6) := HTU5.out.next ht6 (fun _ _ f => f)
  clear ht6 HRD HRF HTU5 hst5
  go_wp2
  go_ret
  exact ⟨rfl, HF.out⟩

set_option maxRecDepth 100000 in
set_option maxHeartbeats 1000000 in
theorem fgets_long (A : Option Addr) (c : Nat) (al : List UInt8) (w : World) (hr : RdC w (.slice A al.length c) al) (hn : al.length ≤ 300) :
    Calls Try.prog 4 #[.slice A al.length c, .bool true] w (Told2 true w) := by
  have hnot : ∀ (x : Bool) (w : World), (Op.unary .not (.bool x)).run Try.prog w = .ok (.bool (!x)) w := fun _ _ => rfl
  obtain ⟨i0, hi, hz0, hz1, hz2⟩ := info_parts infoByte
  have HI := Lib.hid hi
  have HZ0 := Lib.hid hz0
  have HZ1 := Lib.hid hz1
  have HZ2 := Lib.hid hz2
  have HR := Lib.hid hr
  clear hr hi hz0 hz1 hz2
  go_enter Try.func4, Try.ntmps4
  go_wp2_with fail
  with_reducible refine (lives3_calls w).mono ?_
  rintro e w1 ⟨rfl, ht1⟩
  have H1 := Lib.hid ht1
  have HR1 := Lib.hid (HR.out.still ht1).1
  clear ht1 HR
  have hmade : (w1.alloc (.cells #[] 5)).ownsRow 0 5 1 (.slice (some ⟨w1.heap.size, 0, none⟩) 0 0) 0 [] := World.ownsRow_made w1 #[] 0 (Nat.zero_le _) (Nat.zero_le _) rfl
  have HMD := Lib.hid hmade
  clear hmade
  go_wp2_with (first
    | (at_builtin; refine wpList_append_src _ rfl (.tmp 20) (.tmp 21) 22 22 (by rfl) 5 i0 _ 1 1 Try.underlying22 HI.out HZ0.out HZ1.out HZ2.out rfl (.slice (some ⟨w1.heap.size, 0, none⟩) 0 0) 0 [] (by rfl) HMD.out (.slice A al.length c) al.length (cellsOf al) (by rfl) ((HR1.out.still ((Turns.refl _ _).alloc _)).src Try.underlying22) (by simp only [maxLen]; omega) (by omega) ?_; intro A2 c2 w2 ho2 hg2 ha2; rw [Nat.zero_add, List.nil_append] at ho2; rw [Nat.zero_add] at ha2 ⊢; have HO2 := Lib.hid ho2; have HG2 := Lib.hid hg2; have HA2 := Lib.hid ha2; clear ho2 hg2 ha2)
    | (at_builtin; refine wpList_append_zeros _ rfl (.tmp 22) (.const (.int .i64 65537)) 22 3 (by rfl) 5 i0 _ 1 Try.underlying22 _ Try.underlying3 HI.out HZ0.out HZ1.out HZ2.out rfl rfl (.slice A2 al.length c2) al.length (cellsOf al) (by rfl) HO2.out .i64 65537 (by rfl) (by simp only [maxLen]; omega) (by omega) ?_; intro A3 c3 w3 ho3 hg3 ha3; obtain ⟨N, hN⟩ : ∃ N, N = al.length + 65537 := ⟨_, rfl⟩; rw [← hN] at ho3 ha3 ⊢; have HO3 := Lib.hid ho3; have HG3 := Lib.hid hg3; have HA3 := Lib.hid ha3; have HN := Lib.hid hN; clear ho3 hg3 ha3 hN))
  obtain ⟨bl, hbl⟩ : ∃ bl : List UInt8, bl = al ++ List.replicate 65537 0 := ⟨_, rfl⟩
  have hlen : bl.length = al.length + 65537 := by rw [hbl, List.length_append, List.length_replicate]
  have hcs : cellsOf al ++ List.replicate 65537 (.int .u8 0) = cellsOf bl := by rw [hbl]; exact cells_zeros al 65537
  have hNb : N = bl.length := HN.out.trans hlen.symm
  have ho3 := HO3.out
  rw [hcs] at ho3
  have tA : Turns (fun _ => False) w w2 := (H1.out.alloc _).grown HG2.out (fun k hk hlt => by
    have : w1.heap.size = k := by simpa [Value.ownBlock] using hk
    have := H1.out.size
    omega)
  have hsz2 : w1.heap.size ≤ w2.heap.size := by
    have := HG2.out.size
    simp at this
    omega
  have hb2 : ∀ k, (Value.slice A2 al.length c2).ownBlock = some k → w.heap.size ≤ k := by
    intro k hk
    have := H1.out.size
    rcases HA2.out with h | h
    · rw [h] at hk; simp [Value.ownBlock] at hk; omega
    · rw [h] at hk; simp at hk; omega
  have tB : Turns (fun _ => False) w w3 := tA.grown HG3.out (fun k hk hlt => by have := hb2 k hk; omega)
  have HTU := Lib.hid tB
  have hl : bl.length ≤ 9223372036854775807 := by omega
  have hl2 : bl.length ≤ 549755813888 := by omega
  have HL := Lib.hid hl
  have HL2 := Lib.hid hl2
  subst hNb
  have HRC := Lib.hid (RdC.of_own ho3)
  clear hbl hlen hcs ho3 tA tB hsz2 hb2 hl hl2 HO2 HO3 HG2 HG3 HA2 HA3 HN H1 HR1 HMD HI HZ0 HZ1 HZ2
  go_wp2_with fail
  with_reducible refine (fnew_calls w3).mono ?_
  rintro e w4 ⟨B, rfl, hB, hT4, ht4⟩
  have HT4 := Lib.hid hT4
  have HR4 := Lib.hid (HRC.out.still ht4)
  have hap : bl ≠ [] → ∀ k, (Value.slice A3 bl.length c3).ownBlock = some k → ¬ k = B := fun hne k hk e => by
    have := HRC.out.1.lt hne k hk
    omega
  have HAP := Lib.hid hap
  have HTU4 : Hid (Turns (fun _ => False) w w4) := HTU.out.next ht4 (fun _ _ f => f)
  have hBw : w.heap.size ≤ B := Nat.le_trans HTU.out.size hB
  clear hT4 ht4 HRC HTU hap
  go_wp2_with fail
  with_reducible refine (fget_calls B false _ bl w4 HT4.out HR4.out HL.out).mono ?_
  rintro e w5 ⟨v5, rfl, hv5, hm5⟩
  have hrd : Rd w5 v5 (if fgetE bl = 0 then bodyOf bl else []) := by
    by_cases hz : fgetE bl = 0
    · rw [if_pos hz] at hv5 ⊢; exact hv5
    · rw [if_neg hz] at hv5 ⊢; subst hv5; exact rd_nil _
  have HTU5 : Hid (Turns (fun _ => False) w w5) := HTU4.out.next hm5.2 (fun i hi hs => by omega)
  have hr5 := (HR4.out.turns hm5.2 (fun hne k hk hs => HAP.out hne k hk hs)).1
  have hst5 := hr5.string (P := Try.prog) (src := 22) (dst := 9) Try.underlying22 Try.underlying5 Try.underlying9
  have HRF := Lib.hid (refget_calls bl w5 HL2.out)
  unfold RefGets at HRF
  generalize (if fgetE bl = 0 then bodyOf bl else []) = bd at *
  generalize (if fgetE bl = 0 then ((bl.getD 1 0).toNat : Int) else 0) = kk at *
  generalize fgetE bl = E at *
  have HRD := Lib.hid hrd
  obtain ⟨A5, c5, rfl⟩ := hrd.shape
  clear hrd hv5 hm5 hr5 HT4 HR4 HTU4 HAP
  go_wp2_with fail
  with_reducible refine HRF.out.mono ?_
  rintro e w6 ⟨rfl, ht6⟩
  have hst6 := (HRD.out.still ht6).string (P := Try.prog) (src := 22) (dst := 9) Try.underlying22 Try.underlying5 Try.underlying9
  have HF : Hid (Turns (fun _ => False) w w6) := HTU5.out.next ht6 (fun _ _ f => f)
  clear ht6 HRD HRF HTU5 hst5
  go_wp2
  go_ret
  exact ⟨rfl, HF.out⟩

theorem fgets_walk (A : Option Addr) (c : Nat) (bl : List UInt8) (long : Bool) (w : World) (hr : RdC w (.slice A bl.length c) bl) (hm : bl.length ≤ 9223372036854775807) :
    Calls Try.prog 4 #[.slice A bl.length c, .bool long] w (Told2 true w) := by
  by_cases h : 300 < bl.length
  · exact fgets_few A c _ long w hm h
  · cases long with
    | false => exact fgets_plain A c bl w hr (by omega)
    | true => exact fgets_long A c bl w hr (by omega)
end Go.Proofs.Ytnfiaibfhfpmjaa

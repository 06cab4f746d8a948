/-
  The law FramePuts tells true of any kind and body, and turns nothing that was there.
  Conditions: none.
-/
import Derived.Test.YtnfiaibfhfpmjaaLives3
import Derived.Test.YtnfiaibfhfpmjaaFrameM
import Derived.Test.YtnfiaibfhfpmjaaRefPut
import Derived.Test.YtnfiaibfhfpmjaaZeros
import Derived.Laws.OwnMore
namespace Go.Proofs.Ytnfiaibfhfpmjaa
open Go.RowKit

theorem fputs_few (k : UInt8) (A : Option Addr) (c n : Nat) (more : Nat) (w : World) (hm : n ≤ 9223372036854775807) (h : 300 < n) :
    Calls Try.prog 3 #[.int .u8 (k.toNat : Int), .slice A n c, .int .u8 more] w (Told2 true w) := by
  have hnot : ∀ (x : Bool) (w : World), (Op.unary .not (.bool x)).run Try.prog w = .ok (.bool (!x)) w := fun _ _ => rfl
  go_enter Try.func3, Try.ntmps3
  go_wp2_with fail
  with_reducible refine (lives3_calls w).mono ?_
  rintro e w1 ⟨rfl, ht1⟩
  have H1 := Lib.hid ht1
  clear ht1
  go_wp2_with fail
  with_reducible refine (lives3_calls w1).mono ?_
  rintro e w2 ⟨rfl, ht2⟩
  have H2 : Hid (Turns (fun _ => False) w w2) := H1.out.next ht2 (fun _ _ f => f)
  clear ht2
  go_wp2
  go_ret
  exact ⟨rfl, H2.out⟩

set_option maxRecDepth 100000 in
set_option maxHeartbeats 1000000 in
theorem fputs_plain (k : UInt8) (A : Option Addr) (c : Nat) (al : List UInt8) (more : Nat) (w : World) (hr : Rd w (.slice A al.length c) al) (hn : al.length ≤ 300) (hmore : more ≤ 250) :
    Calls Try.prog 3 #[.int .u8 (k.toNat : Int), .slice A al.length c, .int .u8 more] w (Told2 true w) := by
  have hnot : ∀ (x : Bool) (w : World), (Op.unary .not (.bool x)).run Try.prog w = .ok (.bool (!x)) w := fun _ _ => rfl
  obtain ⟨i0, hi, hz0, hz1, hz2⟩ := info_parts infoByte
  have HI := Lib.hid hi
  have HZ0 := Lib.hid hz0
  have HZ1 := Lib.hid hz1
  have HZ2 := Lib.hid hz2
  have HR := Lib.hid hr
  have hkl : (k.toNat : Int) < 256 := by have := k.toNat_lt; omega
  clear hr hi hz0 hz1 hz2
  go_enter Try.func3, Try.ntmps3
  go_wp2_with fail
  with_reducible refine (lives3_calls w).mono ?_
  rintro e w1 ⟨rfl, ht1⟩
  have H1 := Lib.hid ht1
  have HR1 := Lib.hid (HR.out.still ht1)
  clear ht1 HR
  have hmade : (w1.alloc (.cells #[] 5)).ownsRow 0 5 1 (.slice (some ⟨w1.heap.size, 0, none⟩) 0 0) 0 [] := World.ownsRow_made w1 #[] 0 (Nat.zero_le _) (Nat.zero_le _) rfl
  have HMD := Lib.hid hmade
  clear hmade
  go_wp2_with (at_builtin; refine wpList_append_src _ rfl (.tmp 24) (.tmp 25) 22 22 (by rfl) 5 i0 _ 1 1 Try.underlying22 HI.out HZ0.out HZ1.out HZ2.out rfl (.slice (some ⟨w1.heap.size, 0, none⟩) 0 0) 0 [] (by rfl) HMD.out (.slice A al.length c) al.length (cellsOf al) (by rfl) ((HR1.out.still ((Turns.refl _ _).alloc _)).src Try.underlying22) (by simp only [maxLen]; omega) (by omega) ?_; intro A2 c2 w2 ho2 hg2 ha2; rw [Nat.zero_add, List.nil_append] at ho2; rw [Nat.zero_add] at ha2 ⊢; have HO2 := Lib.hid ho2; have HG2 := Lib.hid hg2; have HA2 := Lib.hid ha2; clear ho2 hg2 ha2)
  have tA : Turns (fun _ => False) w w2 := (H1.out.alloc _).grown HG2.out (fun k hk hlt => by
    have : w1.heap.size = k := by simpa [Value.ownBlock] using hk
    have := H1.out.size
    omega)
  have hb2 : ∀ k, (Value.slice A2 al.length c2).ownBlock = some k → w.heap.size ≤ k := by
    intro k hk
    have := H1.out.size
    rcases HA2.out with h | h
    · rw [h] at hk; simp [Value.ownBlock] at hk; omega
    · rw [h] at hk; simp at hk; omega
  obtain ⟨bl, hbl⟩ : ∃ bl, bl = al := ⟨_, rfl⟩
  have HRC := Lib.hid (RdC.of_own HO2.out)
  have HTU := Lib.hid tA
  subst hbl
  have hl0 : bl.length ≤ 65526 := by omega
  have HL := Lib.hid hl0
  clear tA hb2 hl0 HO2 HG2 HA2 H1 HR1 HMD HI HZ0 HZ1 HZ2
  go_wp2_with fail
  with_reducible refine (fnew_calls w2).mono ?_
  rintro e w4 ⟨B, rfl, hB, hT4, ht4⟩
  have HT4 := Lib.hid hT4
  have HR4 := Lib.hid (HRC.out.still ht4)
  have hap : bl ≠ [] → ∀ k, (Value.slice A2 bl.length c2).ownBlock = some k → ¬ k = B := fun hne k hk e => by
    have := HRC.out.1.lt hne k hk
    omega
  have HAP := Lib.hid hap
  have HTU4 : Hid (Turns (fun _ => False) w w4) := HTU.out.next ht4 (fun _ _ f => f)
  have hBw : w.heap.size ≤ B := Nat.le_trans HTU.out.size hB
  clear hT4 ht4 HRC HTU hap
  have HRR := Lib.hid HR4.out.1
  go_wp2_with fail
  with_reducible refine (fput_calls B false k.toNat _ bl w4 HT4.out HRR.out k.toNat_lt HL.out).mono ?_
  rintro e w5 ⟨v5, rfl, ho5, hb5, hm5⟩
  have hfl := frameB_length k.toNat bl
  obtain ⟨hg0, hg1, hg2⟩ := frame_got k.toNat bl k.toNat_lt HL.out
  have HRP := Lib.hid (fun W => refput_calls k bl W HL.out)
  generalize frameB k.toNat bl = fr at *
  have HG0 := Lib.hid hg0
  have HG1 := Lib.hid hg1
  have HG2' := Lib.hid hg2
  have hfi : (fr.length : Int) = (bl.length : Int) + 10 := by omega
  have hfm : fr.length ≤ 9223372036854775807 := by have := HL.out; omega
  have HFM := Lib.hid hfm
  have HTU5 : Hid (Turns (fun _ => False) w w5) := HTU4.out.next hm5.2 (fun i hi hs => by omega)
  have HU5 := Lib.hid (HR4.out.turns hm5.2 (fun hne k hk hs => HAP.out hne k hk hs))
  have HV5 := Lib.hid (RdC.of_own ho5)
  have HT5 := Lib.hid hm5.tbl
  have hb5' : ∀ k, v5.ownBlock = some k → k ≠ B := fun k hk e => by have := hb5 k hk; have := HT4.out.lt; omega
  have HB5 := Lib.hid hb5'
  obtain ⟨A5, c5, rfl⟩ := owns_shape ho5
  clear ho5 hb5 hm5 hb5' HT4 HR4 HTU4 hfl hg0 hg1 hg2 hfm
  have hst5 := HU5.out.1.string (P := Try.prog) (src := 22) (dst := 9) Try.underlying22 Try.underlying5 Try.underlying9
  go_wp2_with fail
  with_reducible refine (HRP.out w5).mono ?_
  rintro e w6 ⟨rfl, ht6⟩
  have HTU6 : Hid (Turns (fun _ => False) w w6) := HTU5.out.next ht6 (fun _ _ f => f)
  have HU6 := Lib.hid (HU5.out.still ht6)
  have HV6 := Lib.hid (HV5.out.still ht6)
  have HT6 := Lib.hid (HT5.out.turns ht6 (fun f => f))
  have hst6 := HV6.out.1.string (P := Try.prog) (src := 22) (dst := 9) Try.underlying22 Try.underlying5 Try.underlying9
  clear ht6 hst5 HTU5 HU5 HV5 HT5 HRP
  go_wp2_with fail
  with_reducible refine (fget_calls B true _ fr w6 HT6.out HV6.out HFM.out).mono ?_
  rintro e w7 ⟨v7, rfl, hv7, hm7⟩
  rw [HG0.out, if_pos rfl, HG1.out] at hv7
  rw [HG0.out, if_pos rfl, HG2'.out]
  have hst7 := hv7.string (P := Try.prog) (src := 22) (dst := 9) Try.underlying22 Try.underlying5 Try.underlying9
  have hst8 := (HU6.out.turns hm7.2 (fun hne k hk hs => HAP.out hne k hk hs)).1.string (P := Try.prog) (src := 22) (dst := 9) Try.underlying22 Try.underlying5 Try.underlying9
  have HF : Hid (Turns (fun _ => False) w w7) := HTU6.out.next hm7.2 (fun i hi hs => by omega)
  obtain ⟨A7, c7, rfl⟩ := hv7.shape
  clear hv7 hm7 HG0 HG1 HG2' HU6 HV6 HT6 HTU6 HAP HB5 hst6
  go_wp2
  go_ret
  exact ⟨rfl, HF.out⟩

set_option maxRecDepth 100000 in
set_option maxHeartbeats 1000000 in
theorem fputs_full (k : UInt8) (A : Option Addr) (c : Nat) (al : List UInt8) (more : Nat) (w : World) (hr : Rd w (.slice A al.length c) al) (hn : al.length ≤ 300) (hmore : 250 < more) (hmost : more ≤ 253) :
    Calls Try.prog 3 #[.int .u8 (k.toNat : Int), .slice A al.length c, .int .u8 more] w (Told2 true w) := by
  obtain ⟨m, hmm⟩ : ∃ m : Nat, m = 65273 + more - al.length := ⟨_, rfl⟩
  have hs1 : IntKind.i64.wrap (65526 - (al.length : Int)) = 65526 - (al.length : Int) := IntWalk.i64_in _ (by omega)
  have hs2 : IntKind.i64.wrap (65526 - (al.length : Int) + (more : Int)) = 65526 - (al.length : Int) + (more : Int) := IntWalk.i64_in _ (by omega)
  have hs3 : IntKind.i64.wrap (65526 - (al.length : Int) + (more : Int) - 253) = (m : Int) := by rw [IntWalk.i64_in _ (by omega)]; omega
  have hs4 : wrap64 (65526 - (al.length : Int) + (more : Int) - 253) = (m : Int) := by unfold wrap64; omega
  have hs5 : 65526 - (al.length : Int) + (more : Int) - 253 = (m : Int) := by omega
  have hmb : m ≤ 70000 := by omega
  have HMM := Lib.hid hmm
  clear hmm
  have hnot : ∀ (x : Bool) (w : World), (Op.unary .not (.bool x)).run Try.prog w = .ok (.bool (!x)) w := fun _ _ => rfl
  obtain ⟨i0, hi, hz0, hz1, hz2⟩ := info_parts infoByte
  have HI := Lib.hid hi
  have HZ0 := Lib.hid hz0
  have HZ1 := Lib.hid hz1
  have HZ2 := Lib.hid hz2
  have HR := Lib.hid hr
  have hkl : (k.toNat : Int) < 256 := by have := k.toNat_lt; omega
  clear hr hi hz0 hz1 hz2
  go_enter Try.func3, Try.ntmps3
  go_wp2_with fail
  with_reducible refine (lives3_calls w).mono ?_
  rintro e w1 ⟨rfl, ht1⟩
  have H1 := Lib.hid ht1
  have HR1 := Lib.hid (HR.out.still ht1)
  clear ht1 HR
  have hmade : (w1.alloc (.cells #[] 5)).ownsRow 0 5 1 (.slice (some ⟨w1.heap.size, 0, none⟩) 0 0) 0 [] := World.ownsRow_made w1 #[] 0 (Nat.zero_le _) (Nat.zero_le _) rfl
  have HMD := Lib.hid hmade
  clear hmade
  go_wp2_with (first
    | (at_builtin; refine wpList_append_src _ rfl (.tmp 24) (.tmp 25) 22 22 (by rfl) 5 i0 _ 1 1 Try.underlying22 HI.out HZ0.out HZ1.out HZ2.out rfl (.slice (some ⟨w1.heap.size, 0, none⟩) 0 0) 0 [] (by rfl) HMD.out (.slice A al.length c) al.length (cellsOf al) (by rfl) ((HR1.out.still ((Turns.refl _ _).alloc _)).src Try.underlying22) (by simp only [maxLen]; omega) (by omega) ?_; intro A2 c2 w2 ho2 hg2 ha2; rw [Nat.zero_add, List.nil_append] at ho2; rw [Nat.zero_add] at ha2 ⊢; have HO2 := Lib.hid ho2; have HG2 := Lib.hid hg2; have HA2 := Lib.hid ha2; clear ho2 hg2 ha2)
    | (at_builtin; refine wpList_append_zeros _ rfl (.tmp 29) (.tmp 36) 22 3 (by rfl) 5 i0 _ 1 Try.underlying22 _ Try.underlying3 HI.out HZ0.out HZ1.out HZ2.out rfl rfl (.slice A2 al.length c2) al.length (cellsOf al) (by rfl) HO2.out .i64 m (by rfl) (by simp only [maxLen]; omega) (by omega) ?_; intro A3 c3 w3 ho3 hg3 ha3; obtain ⟨N, hN⟩ : ∃ N, N = al.length + m := ⟨_, rfl⟩; rw [← hN] at ho3 ha3 ⊢; have HO3 := Lib.hid ho3; have HG3 := Lib.hid hg3; have HA3 := Lib.hid ha3; have HN := Lib.hid hN; clear ho3 hg3 ha3 hN))
  have tA : Turns (fun _ => False) w w2 := (H1.out.alloc _).grown HG2.out (fun k hk hlt => by
    have : w1.heap.size = k := by simpa [Value.ownBlock] using hk
    have := H1.out.size
    omega)
  have hb2 : ∀ k, (Value.slice A2 al.length c2).ownBlock = some k → w.heap.size ≤ k := by
    intro k hk
    have := H1.out.size
    rcases HA2.out with h | h
    · rw [h] at hk; simp [Value.ownBlock] at hk; omega
    · rw [h] at hk; simp at hk; omega
  have hmm := HMM.out
  obtain ⟨bl, hbl⟩ : ∃ bl : List UInt8, bl = al ++ List.replicate m 0 := ⟨_, rfl⟩
  have hlen : bl.length = al.length + m := by rw [hbl, List.length_append, List.length_replicate]
  have hcs : cellsOf al ++ List.replicate m (.int .u8 0) = cellsOf bl := by rw [hbl]; exact cells_zeros al m
  have hNb : N = bl.length := HN.out.trans hlen.symm
  have ho3 := HO3.out
  rw [hcs] at ho3
  have tB : Turns (fun _ => False) w w3 := tA.grown HG3.out (fun k hk hlt => by have := hb2 k hk; omega)
  have HTU := Lib.hid tB
  subst hNb
  have HRC := Lib.hid (RdC.of_own ho3)
  have hl0 : bl.length ≤ 65526 := by omega
  have HL := Lib.hid hl0
  clear hbl hlen hcs ho3 tA tB hb2 HO2 HO3 HG2 HG3 HA2 HA3 HN H1 HR1 HMD HI HZ0 HZ1 HZ2 hs1 hs2 hs3 hs4 hs5 hmm HMM
  go_wp2_with fail
  with_reducible refine (fnew_calls w3).mono ?_
  rintro e w4 ⟨B, rfl, hB, hT4, ht4⟩
  have HT4 := Lib.hid hT4
  have HR4 := Lib.hid (HRC.out.still ht4)
  have hap : bl ≠ [] → ∀ k, (Value.slice A3 bl.length c3).ownBlock = some k → ¬ k = B := fun hne k hk e => by
    have := HRC.out.1.lt hne k hk
    omega
  have HAP := Lib.hid hap
  have HTU4 : Hid (Turns (fun _ => False) w w4) := HTU.out.next ht4 (fun _ _ f => f)
  have hBw : w.heap.size ≤ B := Nat.le_trans HTU.out.size hB
  clear hT4 ht4 HRC HTU hap
  have HRR := Lib.hid HR4.out.1
  go_wp2_with fail
  with_reducible refine (fput_calls B false k.toNat _ bl w4 HT4.out HRR.out k.toNat_lt HL.out).mono ?_
  rintro e w5 ⟨v5, rfl, ho5, hb5, hm5⟩
  have hfl := frameB_length k.toNat bl
  obtain ⟨hg0, hg1, hg2⟩ := frame_got k.toNat bl k.toNat_lt HL.out
  generalize frameB k.toNat bl = fr at *
  have HG0 := Lib.hid hg0
  have HG1 := Lib.hid hg1
  have HG2' := Lib.hid hg2
  have hfi : (fr.length : Int) = (bl.length : Int) + 10 := by omega
  have hfm : fr.length ≤ 9223372036854775807 := by have := HL.out; omega
  have HFM := Lib.hid hfm
  have HTU5 : Hid (Turns (fun _ => False) w w5) := HTU4.out.next hm5.2 (fun i hi hs => by omega)
  have HU5 := Lib.hid (HR4.out.turns hm5.2 (fun hne k hk hs => HAP.out hne k hk hs))
  have HV5 := Lib.hid (RdC.of_own ho5)
  have HT5 := Lib.hid hm5.tbl
  have hb5' : ∀ k, v5.ownBlock = some k → k ≠ B := fun k hk e => by have := hb5 k hk; have := HT4.out.lt; omega
  have HB5 := Lib.hid hb5'
  obtain ⟨A5, c5, rfl⟩ := owns_shape ho5
  clear ho5 hb5 hm5 hb5' HT4 HR4 HTU4 hfl hg0 hg1 hg2 hfm
  go_wp2_with fail
  with_reducible refine (fget_calls B true _ fr w5 HT5.out HV5.out HFM.out).mono ?_
  rintro e w7 ⟨v7, rfl, hv7, hm7⟩
  rw [HG0.out, if_pos rfl, HG1.out] at hv7
  rw [HG0.out, if_pos rfl, HG2'.out]
  have hst7 := hv7.string (P := Try.prog) (src := 22) (dst := 9) Try.underlying22 Try.underlying5 Try.underlying9
  have hst8 := (HU5.out.turns hm7.2 (fun hne k hk hs => HAP.out hne k hk hs)).1.string (P := Try.prog) (src := 22) (dst := 9) Try.underlying22 Try.underlying5 Try.underlying9
  have HF : Hid (Turns (fun _ => False) w w7) := HTU5.out.next hm7.2 (fun i hi hs => by omega)
  obtain ⟨A7, c7, rfl⟩ := hv7.shape
  clear hv7 hm7 HG0 HG1 HG2' HU5 HV5 HT5 HTU5 HAP HB5
  go_wp2
  go_ret
  exact ⟨rfl, HF.out⟩

set_option maxRecDepth 100000 in
set_option maxHeartbeats 1000000 in
theorem fputs_over (k : UInt8) (A : Option Addr) (c : Nat) (al : List UInt8) (more : Nat) (w : World) (hr : Rd w (.slice A al.length c) al) (hn : al.length ≤ 300) (hmore : 253 < more) (hmost : more < 256) :
    Calls Try.prog 3 #[.int .u8 (k.toNat : Int), .slice A al.length c, .int .u8 more] w (Told2 true w) := by
  obtain ⟨m, hmm⟩ : ∃ m : Nat, m = 65273 + more - al.length := ⟨_, rfl⟩
  have hs1 : IntKind.i64.wrap (65526 - (al.length : Int)) = 65526 - (al.length : Int) := IntWalk.i64_in _ (by omega)
  have hs2 : IntKind.i64.wrap (65526 - (al.length : Int) + (more : Int)) = 65526 - (al.length : Int) + (more : Int) := IntWalk.i64_in _ (by omega)
  have hs3 : IntKind.i64.wrap (65526 - (al.length : Int) + (more : Int) - 253) = (m : Int) := by rw [IntWalk.i64_in _ (by omega)]; omega
  have hs4 : wrap64 (65526 - (al.length : Int) + (more : Int) - 253) = (m : Int) := by unfold wrap64; omega
  have hs5 : 65526 - (al.length : Int) + (more : Int) - 253 = (m : Int) := by omega
  have hmb : m ≤ 70000 := by omega
  have HMM := Lib.hid hmm
  clear hmm
  have hnot : ∀ (x : Bool) (w : World), (Op.unary .not (.bool x)).run Try.prog w = .ok (.bool (!x)) w := fun _ _ => rfl
  obtain ⟨i0, hi, hz0, hz1, hz2⟩ := info_parts infoByte
  have HI := Lib.hid hi
  have HZ0 := Lib.hid hz0
  have HZ1 := Lib.hid hz1
  have HZ2 := Lib.hid hz2
  have HR := Lib.hid hr
  have hkl : (k.toNat : Int) < 256 := by have := k.toNat_lt; omega
  clear hr hi hz0 hz1 hz2
  go_enter Try.func3, Try.ntmps3
  go_wp2_with fail
  with_reducible refine (lives3_calls w).mono ?_
  rintro e w1 ⟨rfl, ht1⟩
  have H1 := Lib.hid ht1
  have HR1 := Lib.hid (HR.out.still ht1)
  clear ht1 HR
  have hmade : (w1.alloc (.cells #[] 5)).ownsRow 0 5 1 (.slice (some ⟨w1.heap.size, 0, none⟩) 0 0) 0 [] := World.ownsRow_made w1 #[] 0 (Nat.zero_le _) (Nat.zero_le _) rfl
  have HMD := Lib.hid hmade
  clear hmade
  go_wp2_with (first
    | (at_builtin; refine wpList_append_src _ rfl (.tmp 24) (.tmp 25) 22 22 (by rfl) 5 i0 _ 1 1 Try.underlying22 HI.out HZ0.out HZ1.out HZ2.out rfl (.slice (some ⟨w1.heap.size, 0, none⟩) 0 0) 0 [] (by rfl) HMD.out (.slice A al.length c) al.length (cellsOf al) (by rfl) ((HR1.out.still ((Turns.refl _ _).alloc _)).src Try.underlying22) (by simp only [maxLen]; omega) (by omega) ?_; intro A2 c2 w2 ho2 hg2 ha2; rw [Nat.zero_add, List.nil_append] at ho2; rw [Nat.zero_add] at ha2 ⊢; have HO2 := Lib.hid ho2; have HG2 := Lib.hid hg2; have HA2 := Lib.hid ha2; clear ho2 hg2 ha2)
    | (at_builtin; refine wpList_append_zeros _ rfl (.tmp 29) (.tmp 36) 22 3 (by rfl) 5 i0 _ 1 Try.underlying22 _ Try.underlying3 HI.out HZ0.out HZ1.out HZ2.out rfl rfl (.slice A2 al.length c2) al.length (cellsOf al) (by rfl) HO2.out .i64 m (by rfl) (by simp only [maxLen]; omega) (by omega) ?_; intro A3 c3 w3 ho3 hg3 ha3; obtain ⟨N, hN⟩ : ∃ N, N = al.length + m := ⟨_, rfl⟩; rw [← hN] at ho3 ha3 ⊢; have HO3 := Lib.hid ho3; have HG3 := Lib.hid hg3; have HA3 := Lib.hid ha3; have HN := Lib.hid hN; clear ho3 hg3 ha3 hN))
  have tA : Turns (fun _ => False) w w2 := (H1.out.alloc _).grown HG2.out (fun k hk hlt => by
    have : w1.heap.size = k := by simpa [Value.ownBlock] using hk
    have := H1.out.size
    omega)
  have hb2 : ∀ k, (Value.slice A2 al.length c2).ownBlock = some k → w.heap.size ≤ k := by
    intro k hk
    have := H1.out.size
    rcases HA2.out with h | h
    · rw [h] at hk; simp [Value.ownBlock] at hk; omega
    · rw [h] at hk; simp at hk; omega
  have hmm := HMM.out
  obtain ⟨bl, hbl⟩ : ∃ bl : List UInt8, bl = al ++ List.replicate m 0 := ⟨_, rfl⟩
  have hlen : bl.length = al.length + m := by rw [hbl, List.length_append, List.length_replicate]
  have hcs : cellsOf al ++ List.replicate m (.int .u8 0) = cellsOf bl := by rw [hbl]; exact cells_zeros al m
  have hNb : N = bl.length := HN.out.trans hlen.symm
  have ho3 := HO3.out
  rw [hcs] at ho3
  have tB : Turns (fun _ => False) w w3 := tA.grown HG3.out (fun k hk hlt => by have := hb2 k hk; omega)
  have HTU := Lib.hid tB
  subst hNb
  have HRC := Lib.hid (RdC.of_own ho3)
  have hl0 : 65526 < bl.length := by omega
  have hl1 : bl.length ≤ 9223372036854775807 := by omega
  have HL := Lib.hid hl1
  clear hbl hlen hcs ho3 tA tB hb2 HO2 HO3 HG2 HG3 HA2 HA3 HN H1 HR1 HMD HI HZ0 HZ1 HZ2 hs1 hs2 hs3 hs4 hs5 hmm HMM
  go_wp2_with fail
  with_reducible refine (fnew_calls w3).mono ?_
  rintro e w4 ⟨B, rfl, hB, hT4, ht4⟩
  have HT4 := Lib.hid hT4
  have HR4 := Lib.hid (HRC.out.still ht4)
  have hap : bl ≠ [] → ∀ k, (Value.slice A3 bl.length c3).ownBlock = some k → ¬ k = B := fun hne k hk e => by
    have := HRC.out.1.lt hne k hk
    omega
  have HAP := Lib.hid hap
  have HTU4 : Hid (Turns (fun _ => False) w w4) := HTU.out.next ht4 (fun _ _ f => f)
  have hBw : w.heap.size ≤ B := Nat.le_trans HTU.out.size hB
  clear hT4 ht4 HRC HTU hap
  go_wp2_with fail
  with_reducible refine (fput_long B k.toNat bl.length A3 c3 w4 hl0 HL.out).mono ?_
  rintro e w5 ⟨rfl, rfl⟩
  have hl2 : (65526 : Int) < (bl.length : Int) := by omega
  clear HT4 HR4 HAP
  generalize bl.length = q at *
  go_wp2
  go_ret
  exact ⟨rfl, HTU4.out⟩

theorem fputs_walk (k : UInt8) (A : Option Addr) (c : Nat) (bl : List UInt8) (more : Nat) (w : World) (hr : Rd w (.slice A bl.length c) bl) (hm : bl.length ≤ 9223372036854775807) (hb : more < 256) :
    Calls Try.prog 3 #[.int .u8 (k.toNat : Int), .slice A bl.length c, .int .u8 more] w (Told2 true w) := by
  by_cases h : 300 < bl.length
  · exact fputs_few k A c _ more w hm h
  · by_cases h1 : more ≤ 250
    · exact fputs_plain k A c bl more w hr (by omega) h1
    · by_cases h2 : more ≤ 253
      · exact fputs_full k A c bl more w hr (by omega) (by omega) h2
      · exact fputs_over k A c bl more w hr (by omega) (by omega) hb
end Go.Proofs.Ytnfiaibfhfpmjaa

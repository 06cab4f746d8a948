/-
  The law CrcParts tells true of any parts, and turns nothing that was there.
  Conditions: none.
-/
import Derived.Test.YtglgdelkelgngaaLives2
namespace Go.Proofs.Ytglgdelkelgngaa
open Go.RowKit

/-- Memory that reads as rows of bytes, nil let in. -/
def RdB (w : World) (A : Option Addr) (rs : List (List UInt8)) : Prop :=
  rs ≠ [] → ∃ b off, A = some ⟨b, off, none⟩ ∧ b < w.heap.size ∧ ∀ j (hj : j < rs.length), ∃ A' c', w.cell? ⟨b, off + j, none⟩ = some (.slice A' rs[j].length c') ∧ Rd w (.slice A' rs[j].length c') rs[j] ∧ rs[j].length ≤ 9223372036854775807
theorem RdB.at_ {w w' : World} {A : Option Addr} {rs : List (List UInt8)} (h : RdB w A rs) (ht : Turns (fun _ => False) w w') (k : Nat) (hk : k < rs.length) :
    ∃ b off A' c' row, A = some ⟨b, off, none⟩ ∧ w'.cell? ⟨b, off + k, none⟩ = some (.slice A' row.length c') ∧ Rd w (.slice A' row.length c') row ∧ row.length ≤ 9223372036854775807 ∧ rs.take (k + 1) = rs.take k ++ [row] := by
  obtain ⟨b, off, rfl, hb, hc⟩ := h (by intro e; subst e; simp at hk)
  obtain ⟨A', c', h1, h2, h3⟩ := hc k hk
  exact ⟨b, off, A', c', rs[k], rfl, (ht.cell (p := ⟨b, off + k, none⟩) hb (fun f => f)).trans h1, h2, h3, List.take_succ_eq_append_getElem hk⟩

theorem parts_few (A : Option Addr) (c n : Nat) (w : World) (hm : n ≤ 9223372036854775807) (h : 12 < n) :
    Calls Try.prog 4 #[.slice A n c] w (Told2 true w) := by
  have hnot : ∀ (x : Bool) (w : World), (Op.unary .not (.bool x)).run Try.prog w = .ok (.bool (!x)) w := fun _ _ => rfl
  go_enter Try.func4, Try.ntmps4
  go_wp2_with fail
  with_reducible refine (lives2_calls w).mono ?_
  rintro e w1 ⟨rfl, ht1⟩
  have H1 := Lib.hid ht1
  clear ht1
  go_wp2_with fail
  with_reducible refine (lives2_calls w1).mono ?_
  rintro e w2 ⟨rfl, ht2⟩
  have H2 : Hid (Turns (fun _ => False) w w2) := H1.out.next ht2 (fun _ _ f => f)
  clear ht2
  go_wp2
  go_ret
  exact ⟨rfl, H2.out⟩

/-- What holds at the head of each round. -/
def PartsInv (w : World) (B : Nat) (al : List UInt8) (v : Value) (wr : World) : Prop :=
  (∃ m, Tbl wr B m) ∧ wr.ownsRow 0 5 1 v al.length (cellsOf al) ∧ (∀ k, v.ownBlock = some k → w.heap.size ≤ k ∧ k ≠ B) ∧ Turns (fun _ => False) w wr

set_option maxRecDepth 100000 in
set_option maxHeartbeats 1000000 in
theorem parts_many (A : Option Addr) (c : Nat) (rs : List (List UInt8)) (w : World) (hr : RdB w A rs) (hn : rs.length ≤ 12) :
    Calls Try.prog 4 #[.slice A rs.length c] w (Told2 true w) := by
  have hnot : ∀ (x : Bool) (w : World), (Op.unary .not (.bool x)).run Try.prog w = .ok (.bool (!x)) w := fun _ _ => rfl
  obtain ⟨i0, hi, hz0, hz1, hz2⟩ := info_parts infoByte
  have HI : Hid (Try.prog.info? 5 = some i0) := hi
  have HZ0 := Lib.hid hz0
  have HZ1 := Lib.hid hz1
  have HZ2 := Lib.hid hz2
  have HR := Lib.hid hr
  clear hr hi hz0 hz1 hz2
  obtain ⟨n, hnn⟩ : ∃ n, n = rs.length := ⟨_, rfl⟩
  rw [← hnn] at hn ⊢
  have HNN := Lib.hid hnn
  clear hnn
  go_enter Try.func4, Try.ntmps4
  go_wp2_with fail
  with_reducible refine (lives2_calls w).mono ?_
  rintro e w1 ⟨rfl, ht1⟩
  have H1 := Lib.hid ht1
  clear ht1
  go_wp2_with fail
  with_reducible refine (new_calls w1).mono ?_
  rintro e w2 ⟨rfl, hw2⟩
  have hInv : PartsInv w w1.heap.size [] (.slice none 0 0) w2 := by
    refine ⟨⟨false, by rw [hw2]; exact Tbl.new w1⟩, World.ownsRow_nil _ _ _ _, by simp [Value.ownBlock], ?_⟩
    rw [hw2]; exact H1.out.alloc _
  have HINV := Lib.hid hInv
  have hB : w.heap.size ≤ w1.heap.size := H1.out.size
  clear hInv hw2 H1
  generalize w1.heap.size = B at *
  go_wp2
  go_loopw [4, 5, 20] (fun s v i wr => ∃ k : Nat, k ≤ n ∧ i = .int .i64 k ∧ ∃ al, al.length ≤ 100 * k ∧ s = regV (crc al) ∧ PartsInv w B al v wr) (fun _ _ i _ => n - (intOf i).toNat)
  case atStart => exact ⟨0, by omega, rfl, [], by simp, rfl, HINV.out⟩
  case round =>
    obtain ⟨k, hk, rfl, al, hal, rfl, ⟨m, hT⟩, hown, hob, htr⟩ := hrel
    by_cases hlt : k < n
    · obtain ⟨b, off, A', c', row, rfl, hcell, hrow, hrl, _⟩ := HR.out.at_ htr k (by have := HNN.out; omega)
      by_cases hbig : 100 < row.length
      · have HF := Lib.hid htr
        clear hT hown hob htr hrow HR HINV
        generalize row.length = rl at *
        go_wp2
        go_ret
        exact ⟨rfl, HF.out⟩
      · have hrl2 : row.length ≤ 100 := by omega
        have HT := Lib.hid hT
        have HOWN := Lib.hid hown
        have HOB := Lib.hid hob
        have HTR := Lib.hid htr
        have HROW := Lib.hid (hrow.still htr)
        have HAP : Hid (Apart B (.slice A' row.length c') row) := hrow.old hB
        have HLT := Lib.hid (fun hne => hrow.lt hne)
        clear hT hown hob htr hrow HINV hrl hbig
        unfold regV
        go_wp2_with (at_builtin; refine wpList_append_src _ rfl (.tmp 27) (.tmp 28) 22 22 (by rfl) 5 i0 _ 1 1 Try.underlying22 HI.out HZ0.out HZ1.out HZ2.out rfl _ al.length (cellsOf al) (by rfl) HOWN.out (.slice A' row.length c') row.length (cellsOf row) (by rfl) (HROW.out.src Try.underlying22) (by simp only [maxLen]; omega) (by omega) ?_; intro A2 c2 w2 ho2 hg2 ha2)
        have t2 : Turns (fun _ => False) w w2 := HTR.out.grown hg2 (fun k hk hlt => by have := (HOB.out k hk).1; omega)
        have hT2 : Tbl w2 B m := HT.out.turns ((Turns.refl (fun i => u5.ownBlock = some i) wr).grown hg2 (fun k hk _ => hk)) (fun hS => (HOB.out B hS).2 rfl)
        have hsz2 := HTR.out.size
        have hBl := HT.out.lt
        have hob2 : ∀ k, (Value.slice A2 (al.length + row.length) c2).ownBlock = some k → w.heap.size ≤ k ∧ k ≠ B := by
          intro k hk
          rcases ha2 with h | h
          · rw [h] at hk; exact HOB.out k hk
          · rw [h] at hk; injection hk with hk; omega
        have hrow2 : Rd w2 (.slice A' row.length c') row := HROW.out.turns2 ((Turns.refl (fun i => u5.ownBlock = some i) wr).grown hg2 (fun k hk _ => hk)) (fun hne k hk hS => by
          have := HLT.out hne k hk
          have := (HOB.out k hS).1
          omega)
        have hl2 : al.length + row.length = (al ++ row).length := by rw [List.length_append]
        have ho2' : w2.ownsRow 0 5 1 (.slice A2 (al.length + row.length) c2) (al ++ row).length (cellsOf (al ++ row)) := by
          rw [← hl2, cellsOf_append]; exact ho2
        have hmm : crc (al ++ row) = more (crc al) row := by unfold crc; rw [more_more]
        have HMM := Lib.hid hmm
        have hal2 : (al ++ row).length ≤ 100 * (k + 1) := by rw [List.length_append]; omega
        have HT2 := Lib.hid hT2
        have HTU2 := Lib.hid t2
        have HOB2 := Lib.hid hob2
        have HOWN2 := Lib.hid ho2'
        have HROW2 := Lib.hid hrow2
        have HL2 := Lib.hid hl2
        have HAL2 := Lib.hid hal2
        clear ho2 hg2 ha2 t2 hT2 hob2 hrow2 hl2 ho2' hmm hal2 HT HOWN HOB HTR HROW HLT hsz2 hBl
        with_reducible refine (more_at B m (crc al) _ _ row w2 HT2.out HROW2.out HAP.out (by omega) rfl).mono ?_
        rw [← HMM.out]
        rintro e w3 ⟨rfl, hm3⟩
        have hmk := hm3.tbl
        have t3 : Turns (fun _ => False) w w3 := HTU2.out.next hm3.2 (fun i hi h => by omega)
        have ho3 := hm3.2.owns HOWN2.out (fun k hk e => (HOB2.out k hk).2 e)
        have HT3 := Lib.hid hmk
        have HTU3 := Lib.hid t3
        have HOWN3 := Lib.hid ho3
        clear hm3 hmk t3 ho3 HT2 HTU2 HOWN2 HROW2 HMM HAP
        generalize hcat : al ++ row = cat at *
        have HCAT := Lib.hid hcat
        clear hcat
        have hcl : cat.length ≤ 1099511627776 := by have := HAL2.out; omega
        have HCL := Lib.hid hcl
        clear hcl
        unfold regV
        go_wp2_with fail
        with_reducible refine (new_calls w3).mono ?_
        rintro e w4 ⟨rfl, hw4⟩
        have hU4 : Tbl w4 w3.heap.size false := by rw [hw4]; exact Tbl.new w3
        have ta : Turns (fun _ => False) w3 w4 := by rw [hw4]; exact (Turns.refl (fun _ => False) w3).alloc _
        have hUB : w3.heap.size ≠ B := by have := HT3.out.lt; omega
        have hUw := HTU3.out.size
        have HOL := Lib.hid (fun k hk => (own_lt HOWN3.out k hk))
        have HT4 := Lib.hid (HT3.out.turns ta (fun f => f))
        have HTU4 : Hid (Turns (fun _ => False) w w4) := HTU3.out.next ta (fun _ _ f => f)
        have HOWN4 := Lib.hid (ta.owns HOWN3.out (fun _ _ f => f))
        have HU4 := Lib.hid hU4
        clear hw4 hU4 ta HT3 HTU3 HOWN3
        have HRD4 : Hid (Rd w4 (.slice A2 (al.length + row.length) c2) cat) := Rd.of_own HOWN4.out
        have HAPU : Hid (Apart w3.heap.size (.slice A2 (al.length + row.length) c2) cat) := fun _ k hk e => by have := HOL.out k hk; omega
        have HAPB : Hid (Apart B (.slice A2 (al.length + row.length) c2) cat) := fun _ k hk e => (HOB2.out k hk).2 e
        have HNU : Hid (∀ k, (Value.slice A2 (al.length + row.length) c2).ownBlock = some k → ¬ k = w3.heap.size) := fun k hk e => by have := HOL.out k hk; omega
        clear HOL
        generalize w3.heap.size = U at *
        go_wp2_with fail
        with_reducible refine (made_calls U false w4 HU4.out).mono ?_
        rintro e w4' ⟨rfl, rfl⟩
        go_wp2_with fail
        with_reducible refine (sum_calls U false _ cat w4 HU4.out HRD4.out HAPU.out HCL.out).mono ?_
        rintro e w5 ⟨rfl, hm5⟩
        have HT5 := Lib.hid (HT4.out.turns hm5.2 (fun e => hUB e.symm))
        have HU5 := Lib.hid hm5.tbl
        have HTU5 : Hid (Turns (fun _ => False) w w5) := HTU4.out.next hm5.2 (fun i hi h => by omega)
        have HRD5 := Lib.hid (HRD4.out.apart hm5.2 HAPU.out (fun _ h => h))
        have HOWN5 := Lib.hid (hm5.2.owns HOWN4.out HNU.out)
        clear hm5 HU4 HT4 HTU4 HRD4 HOWN4
        unfold regV
        go_wp2_with fail
        with_reducible refine (sum_calls B true _ cat w5 HT5.out HRD5.out HAPB.out HCL.out).mono ?_
        rintro e w6 ⟨rfl, hm6⟩
        have HT6 := Lib.hid hm6.tbl
        have HU6 := Lib.hid (HU5.out.turns hm6.2 hUB)
        have HF : Hid (PartsInv w B cat (.slice A2 (al.length + row.length) c2) w6) :=
          ⟨⟨true, hm6.tbl⟩, hm6.2.owns HOWN5.out (fun k hk e => (HOB2.out k hk).2 e), HOB2.out, HTU5.out.next hm6.2 (fun i hi h => by omega)⟩
        clear hm6 HU5 HT5 HTU5 HRD5 HOWN5
        unfold regV
        go_wp2_with fail
        with_reducible refine (made_calls B true w6 HT6.out).mono ?_
        rintro e w6' ⟨rfl, rfl⟩
        go_wp2_with fail
        with_reducible refine (made_calls U true w6 HU6.out).mono ?_
        rintro e w6' ⟨rfl, rfl⟩
        go_wp2
        go_roundw
        case rel => exact ⟨k + 1, by omega, by go_num, cat, HAL2.out, rfl, HF.out⟩
        case measure => simp [intOf]; omega
    · have HF := Lib.hid htr
      clear hT hown hob htr HR HINV
      unfold regV
      go_wp2
      go_ret
      exact ⟨rfl, HF.out⟩

theorem parts_walk (A : Option Addr) (c : Nat) (rs : List (List UInt8)) (w : World) (hr : RdB w A rs) (hm : rs.length ≤ 9223372036854775807) :
    Calls Try.prog 4 #[.slice A rs.length c] w (Told2 true w) := by
  by_cases h : 12 < rs.length
  · exact parts_few A c _ w hm h
  · exact parts_many A c rs w hr (by omega)
end Go.Proofs.Ytglgdelkelgngaa

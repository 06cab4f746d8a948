/-
  The law FrameTurned tells true of any kind, any body, any place and any bits that are turned, and turns nothing that was there.
  Conditions: none.
-/
import Derived.Test.YtnfiaibfhfpmjaaLives3
import Derived.Laws.OwnMore
import Derived.Deep.DeepCutAuto
namespace Go.Proofs.Ytnfiaibfhfpmjaa
open Go.RowKit

theorem place3 (at_ : Int) (m : Nat) (hm : m ≤ 300) : ∃ a : Nat, wrap64 ((IntKind.u64.wrap at_).tmod (8 * ((m : Int) + 10) - 31)) = (a : Int) ∧ a + 32 ≤ 8 * (m + 10) := by
  have h0 : 0 ≤ IntKind.u64.wrap at_ := by rw [IntKind.wrap_u64]; omega
  have h1 : 0 < 8 * ((m : Int) + 10) - 31 := by omega
  have e1 : (IntKind.u64.wrap at_).tmod (8 * ((m : Int) + 10) - 31) = IntKind.u64.wrap at_ % (8 * ((m : Int) + 10) - 31) := Int.tmod_eq_emod_of_nonneg h0
  have h2 := Int.emod_nonneg (IntKind.u64.wrap at_) (Int.ne_of_gt h1)
  have h3 := Int.emod_lt_of_pos (IntKind.u64.wrap at_) h1
  rw [e1]
  generalize IntKind.u64.wrap at_ % (8 * ((m : Int) + 10) - 31) = r at *
  refine ⟨r.toNat, ?_, by omega⟩
  have : wrap64 r = r := by unfold wrap64; omega
  rw [this]
  omega
theorem lsb_mod3 (turn : BitVec 32) (k : Nat) : turn.toNat / 2 ^ k % 2 = (turn.getLsbD k).toNat := by
  rw [BitVec.getLsbD, Nat.testBit_eq_decide_div_mod_eq]
  rcases Nat.mod_two_eq_zero_or_one (turn.toNat / 2 ^ k) with h | h <;> rw [h] <;> rfl

theorem fgetE_ne {l : List UInt8} (h : okB l = false) : fgetE l ≠ 0 := by
  unfold fgetE
  split
  · assumption
  · rw [h]; decide
/-- Which inputs the law looks at. -/
theorem fturned_few (kind : Nat) (A : Option Addr) (c : Nat) (bl : List UInt8) (at_ : Int) (turn : BitVec 32) (w : World) (hm : bl.length ≤ 9223372036854775807) (h : 300 < bl.length ∨ turn = 0#32) :
    Calls Try.prog 6 #[.int .u8 kind, .slice A bl.length c, .int .i64 at_, regV turn] w (Told2 true w) := by
  have hnot : ∀ (x : Bool) (w : World), (Op.unary .not (.bool x)).run Try.prog w = .ok (.bool (!x)) w := fun _ _ => rfl
  unfold regV
  generalize bl.length = n at *
  by_cases hn : 300 < n
  · clear h
    go_enter Try.func6, Try.ntmps6
    go_wp2_with fail
    with_reducible refine (lives3_calls w).mono ?_
    rintro e w1 ⟨rfl, ht1⟩
    have H1 := Lib.hid ht1
    clear ht1
    go_wp2_with fail
    with_reducible refine (lives3_calls w1).mono ?_
    rintro e w2 ⟨rfl, ht2⟩
    have H2 : Hid (Turns (fun _ => False) w w2) := H1.out.next ht2 (fun _ _ f => f)
    clear ht2
    go_wp2
    go_ret
    exact ⟨rfl, H2.out⟩
  · have ht : turn = 0#32 := by rcases h with h | h; exact absurd h hn; exact h
    subst ht
    clear h
    go_enter Try.func6, Try.ntmps6
    go_wp2_with fail
    with_reducible refine (lives3_calls w).mono ?_
    rintro e w1 ⟨rfl, ht1⟩
    have H1 := Lib.hid ht1
    clear ht1
    go_wp2_with fail
    with_reducible refine (lives3_calls w1).mono ?_
    rintro e w2 ⟨rfl, ht2⟩
    have H2 : Hid (Turns (fun _ => False) w w2) := H1.out.next ht2 (fun _ _ f => f)
    clear ht2
    go_wp2
    go_ret
    exact ⟨rfl, H2.out⟩

set_option maxRecDepth 100000 in
set_option maxHeartbeats 1000000 in
theorem fturned_many (kind : Nat) (A : Option Addr) (c : Nat) (bl : List UInt8) (at_ : Int) (turn : BitVec 32) (w : World) (hr : Rd w (.slice A bl.length c) bl) (hn : bl.length ≤ 300) (ht : turn ≠ 0#32) (hkd : kind < 256) :
    Calls Try.prog 6 #[.int .u8 kind, .slice A bl.length c, .int .i64 at_, regV turn] w (Told2 true w) := by
  have hnot : ∀ (x : Bool) (w : World), (Op.unary .not (.bool x)).run Try.prog w = .ok (.bool (!x)) w := fun _ _ => rfl
  have htz : ((turn.toNat : Int) == 0) = false := by
    simp only [beq_eq_false_iff_ne]
    intro h
    exact ht (BitVec.eq_of_toNat_eq (by simpa using h))
  have HR := Lib.hid hr
  have HTZ := Lib.hid ht
  clear hr ht
  unfold regV
  go_enter Try.func6, Try.ntmps6
  go_wp2_with fail
  with_reducible refine (lives3_calls w).mono ?_
  rintro e w1 ⟨rfl, ht1⟩
  have H1 := Lib.hid ht1
  have HR1 := Lib.hid (HR.out.still ht1)
  clear ht1 HR
  go_wp2_with fail
  with_reducible refine (fnew_calls w1).mono ?_
  rintro e w2 ⟨B, rfl, hB1, hT2, ht2⟩
  have HR2 := Lib.hid (HR1.out.still ht2)
  have H2 : Hid (Turns (fun _ => False) w w2) := H1.out.next ht2 (fun _ _ f => f)
  have hsz : w.heap.size ≤ B := Nat.le_trans H1.out.size hB1
  have HT2 := Lib.hid hT2
  clear ht2 hT2 H1 HR1 hB1
  go_wp2_with fail
  with_reducible refine (fput_calls B false kind _ bl w2 HT2.out HR2.out hkd (by omega)).mono ?_
  rintro e w3 ⟨v3, rfl, ho3, hb3, hm3⟩
  have hsl := frameB_length kind bl
  have HFT := Lib.hid (fun at_ hat => flips_told (bareB kind bl) at_ turn hat HTZ.out)
  have hfb : frameB kind bl = sealB (bareB kind bl) := rfl
  rw [hfb] at ho3 hsl
  clear hfb
  generalize sealB (bareB kind bl) = s at *
  have hs4 : 10 ≤ s.length := by omega
  obtain ⟨g, cap, rfl, hg0, hgl⟩ := ho3.form (by omega)
  have hgB : g ≠ B := by
    intro e
    have := hb3 g rfl
    have := HT2.out.lt
    omega
  have hgw : w.heap.size ≤ g := Nat.le_trans H2.out.size (hb3 g rfl)
  have HT3 : Hid (Turns (fun i => i = B ∨ i = g) w w3) := (H2.out.mono (fun _ _ f => f.elim)).next hm3.2 (fun i _ h => .inl h)
  have HM3 := Lib.hid hm3.tbl
  have HO3 := Lib.hid ho3
  have hsl2 : s.length = bl.length + 10 := hsl
  clear hm3 hb3 ho3 HR2 HT2 H2 hg0 hgl hsl HTZ
  generalize s.length = n at *
  obtain rfl : n = bl.length + 10 := hsl2
  generalize bl.length = m at *
  obtain ⟨a, ha, haw⟩ := place3 at_ m hn
  have HA := Lib.hid ha
  clear ha
  have HFA := Lib.hid (HFT.out a haw)
  clear HFT
  go_wp2
  rw [HA.out]
  clear HA
  generalize (IntKind.u64.wrap at_).tmod (8 * ((m : Int) + 10) - 31) = junk1
  generalize IntKind.u64.wrap at_ = junk2
  go_loopw [52] (fun i wr => ∃ k : Nat, k ≤ 32 ∧ i = .int .i64 k ∧ wr.ownsRow 0 5 1 (.slice (some ⟨g, 0, none⟩) (m + 10) cap) (m + 10) (cellsOf (flips s a turn k)) ∧ Turns (fun i => i = g) w3 wr) (fun i _ => 32 - (intOf i).toNat)
  case atStart => exact ⟨0, by omega, rfl, HO3.out, Turns.refl _ _⟩
  case round =>
    obtain ⟨k, hk, rfl, ho, htr⟩ := hrel
    have HO := Lib.hid ho
    have HTR := Lib.hid htr
    clear ho htr
    by_cases hlt : k < 32
    · have hsh : (turn.toNat : Int) / 2 ^ k = ((turn.toNat / 2 ^ k : Nat) : Int) := by rw [Int.natCast_ediv, Int.natCast_pow]; rfl
      have hand : bits .and .u32 ((turn.toNat / 2 ^ k : Nat) : Int) 1 = ((turn.toNat / 2 ^ k % 2 : Nat) : Int) := by
        have := u32_and_nat (turn.toNat / 2 ^ k) 1 (Nat.lt_of_le_of_lt (Nat.div_le_self _ _) turn.isLt) (by omega)
        rw [nat_mask1] at this
        exact this
      rw [lsb_mod3] at hand
      generalize turn.toNat / 2 ^ k = q at *
      cases hb : turn.getLsbD k with
      | false =>
        rw [hb] at hand
        have HFL : Hid (flips s a turn (k + 1) = flips s a turn k) := by
          show flips s a turn (k + 1) = flips s a turn k
          rw [flips, hb]; rfl
        clear hb
        go_wp2
        go_roundw
        case rel => exact ⟨k + 1, by omega, by go_num, by rw [HFL.out]; exact HO.out, HTR.out⟩
        case measure => simp [intOf]; omega
      | true =>
        rw [hb] at hand
        have HFL : Hid (flips s a turn (k + 1) = flip1 (flips s a turn k) (a + k)) := by
          show flips s a turn (k + 1) = flip1 (flips s a turn k) (a + k)
          rw [flips, hb]; rfl
        clear hb
        go_wp2
        obtain ⟨j, hj⟩ : ∃ j, j = a + k := ⟨_, rfl⟩
        have hjI : (a : Int) + (k : Int) = (j : Int) := by omega
        rw [← hj] at HFL
        have hw1 : IntKind.i64.wrap (j : Int) = (j : Int) := IntWalk.i64_in _ (by omega)
        obtain ⟨p, hp⟩ : ∃ p, p = j / 8 := ⟨_, rfl⟩
        obtain ⟨r, hr⟩ : ∃ r, r = j % 8 := ⟨_, rfl⟩
        have hp1 : (j : Int).tdiv 8 = (p : Int) := by rw [Int.tdiv_eq_ediv_of_nonneg (by omega)]; omega
        have hp2 : (j : Int) / 8 = (p : Int) := by omega
        have hr1 : (j : Int).tmod 8 = (r : Int) := by rw [Int.tmod_eq_emod_of_nonneg (by omega)]; omega
        have hr2 : (j : Int) % 8 = (r : Int) := by omega
        have hpl : p < m + 10 := by omega
        have hrl : r < 8 := by omega
        have hfl : (flips s a turn k).length = m + 10 := by
          have := HO.out.1
          simpa [cellsOf_length] using this
        have hpl2 : p < (flips s a turn k).length := by omega
        obtain ⟨x, hx⟩ : ∃ x, x = (flips s a turn k).getD p 0 := ⟨_, rfl⟩
        have hc : wr.cell? ⟨g, p, none⟩ = some (.int .u8 (x.toNat : Int)) := by
          rw [HO.out.cellAt p (by omega), hx]
          simp [cellsOf, List.getD_eq_getElem?_getD, List.getElem?_eq_getElem hpl2]
        have hz := HO.out.frozenAt p
        have HX := Lib.hid hx
        clear hx hpl2 hfl
        have hwp : IntKind.i64.wrap (p : Int) = (p : Int) := IntWalk.i64_in _ (by omega)
        have hwr : IntKind.i64.wrap (r : Int) = (r : Int) := IntWalk.i64_in _ (by omega)
        have hpi : (p : Int) < (m : Int) + 10 := by omega
        have hxr : bits .xor .u8 (x.toNat : Int) (IntKind.u8.wrap (2 ^ r)) = ((x ^^^ UInt8.ofNat (2 ^ r)).toNat : Int) := by
          have h1 : IntKind.u8.wrap (2 ^ r) = ((UInt8.ofNat (2 ^ r)).toNat : Int) := by
            have := wrap_byte (2 ^ r)
            rwa [Int.natCast_pow] at this
          rw [h1, u8_xor_nat _ _ x.toNat_lt (UInt8.toNat_lt _), UInt8.toNat_xor]
        have HXR := Lib.hid hxr
        clear hxr
        have HJ := Lib.hid hj
        have HP := Lib.hid hp
        have HQ := Lib.hid hr
        clear hj hp hr
        refine wp_region_still_tail 14 (by kernel_rfl) (by kernel_rfl) ?_
        simp only [List.take_succ_cons, List.take_zero, List.drop_succ_cons, List.drop_zero]
        still_step
        still_step
        still_step
        still_step
        still_step
        still_step
        still_step
        still_step
        still_step
        still_step
        still_step
        still_step
        still_step
        still_step
        refine wpStill_nil ?_
        rw [HXR.out]
        have hc2 : wr.drew.cell? ⟨g, p, none⟩ = some (.int .u8 (x.toNat : Int)) := hc
        have hz2 : wr.drew.frozen? ⟨g, p, none⟩ = false := hz
        have HN : Hid ((wr.drew.setCell ⟨g, p, none⟩ (.int .u8 ((x ^^^ UInt8.ofNat (2 ^ r)).toNat : Int))).ownsRow 0 5 1 (.slice (some ⟨g, 0, none⟩) (m + 10) cap) (m + 10) (cellsOf (flips s a turn (k + 1))) ∧ Turns (fun i => i = g) w3 (wr.drew.setCell ⟨g, p, none⟩ (.int .u8 ((x ^^^ UInt8.ofNat (2 ^ r)).toNat : Int)))) := by
          refine ⟨?_, HTR.out.drew.setCell (p := ⟨g, p, none⟩) (fun _ => rfl) _⟩
          have h1 := HO.out.drew.stored p (.int .u8 ((x ^^^ UInt8.ofNat (2 ^ r)).toNat : Int))
          have h2 : (cellsOf (flips s a turn k)).set p (.int .u8 ((x ^^^ UInt8.ofNat (2 ^ r)).toNat : Int)) = cellsOf (flips s a turn (k + 1)) := by
            rw [HFL.out, flip1, ← HP.out, ← HQ.out, ← HX.out]
            unfold cellsOf
            rw [List.map_set]
          rw [h2] at h1
          exact h1.1
        clear hc hz HO HTR HX HXR HP HQ HJ hjI hw1 hp1 hp2 hr1 hr2 hwp hwr HFL
        generalize (x ^^^ UInt8.ofNat (2 ^ r)) = y at *
        generalize IntKind.u8.wrap (2 ^ r) = junk3
        change wpList _ _ _ _ _ wr.drew
        generalize wr.drew = w4 at *
        go_wp2
        go_roundw
        case rel => exact ⟨k + 1, by omega, by go_num, HN.out.1, HN.out.2⟩
        case measure => simp [intOf]; omega
    · obtain rfl : k = 32 := by omega
      have hlen : (flips s a turn 32).length = m + 10 := by
        have := HO.out.1
        simpa [cellsOf_length] using this
      have hrd : RdC wr (.slice (some ⟨g, 0, none⟩) (m + 10) cap) (flips s a turn 32) := by
        have := HO.out
        rw [← hlen] at this ⊢
        exact RdC.of_own this
      have HTB := Lib.hid (HM3.out.turns HTR.out (fun e => hgB e.symm))
      have HTU : Hid (Turns (fun i => i = B ∨ i = g) w wr) := HT3.out.next HTR.out (fun _ _ h => .inr h)
      have HRD := Lib.hid hrd
      have hl5 : (flips s a turn 32).length ≤ 9223372036854775807 := by omega
      have HL5 := Lib.hid hl5
      have hne := fgetE_ne HFA.out
      clear hlen hrd hl5 HO HTR HM3 HT3 HO3 HFA
      generalize flips s a turn 32 = fl at *
      go_wp2_with fail
      with_reducible refine (fget_calls B true _ fl wr HTB.out HRD.out HL5.out).mono ?_
      rintro e w5 ⟨v, rfl, hv, hm⟩
      rw [if_neg hne] at hv
      rw [if_neg hne]
      subst hv
      generalize fgetE fl = E at *
      have hne1 : (E != 0) = true := by simpa using hne
      have hne2 : (E == 0) = false := by simpa using hne
      have HF : Hid (Turns (fun _ => False) w w5) := (HTU.out.next hm.2 (fun _ _ h => .inl h)).mono (fun i hi h => by rcases h with h | h <;> omega)
      clear hm HTU HRD HTB HL5 hne
      go_wp2
      go_ret
      exact ⟨rfl, HF.out⟩

theorem fturned_walk (kind : Nat) (A : Option Addr) (c : Nat) (bl : List UInt8) (at_ : Int) (turn : BitVec 32) (w : World) (hr : Rd w (.slice A bl.length c) bl) (hm : bl.length ≤ 9223372036854775807) (hkd : kind < 256) :
    Calls Try.prog 6 #[.int .u8 kind, .slice A bl.length c, .int .i64 at_, regV turn] w (Told2 true w) := by
  by_cases h : 300 < bl.length ∨ turn = 0#32
  · exact fturned_few kind A c bl at_ turn w hm h
  · exact fturned_many kind A c bl at_ turn w hr (by omega) (fun e => h (.inr e)) hkd
end Go.Proofs.Ytnfiaibfhfpmjaa

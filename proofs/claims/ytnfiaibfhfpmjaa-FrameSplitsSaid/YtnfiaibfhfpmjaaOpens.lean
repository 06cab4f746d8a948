/-
  What a table's Open tells: what was sealed, in new memory, or why it is nothing.
  Conditions: the table is nobody else's, and not the bytes' own memory; at most 2^39 bytes.
-/
import Derived.Test.YtnfiaibfhfpmjaaSeal
namespace Go.Proofs.Ytnfiaibfhfpmjaa
open Go.RowKit

/-- New bytes are told by a Reader, in new memory. -/
def Raws2 (w : World) (B : Nat) (st : St) (l : List UInt8) (e : Ending) (w' : World) : Prop := ∃ v, e = .returned v ∧ Rd w' v l ∧ (∀ k, v.ownBlock = some k → w.heap.size ≤ k ∧ k < w'.heap.size) ∧ Did w B st w'
theorem own_lt {w : World} {e : TypeId} {size n : Nat} {v : Value} {xs : List Value} (h : w.ownsRow 0 e size v n xs) : ∀ k, v.ownBlock = some k → k < w.heap.size := by
  intro k hk
  rcases h.2 with ⟨rfl, _⟩ | ⟨g, cap, cur, rfl, _, hg, _⟩
  · simp [Value.ownBlock] at hk
  · simp [Value.ownBlock] at hk
    subst hk
    exact (Array.getElem?_eq_some_iff.1 hg).1
theorem rraw2_calls (B : Nat) (st : St) (n : Int) (w : World) (h : Rdr w B st) (hl : st.bs.length ≤ 1099511627776) (h0 : 0 ≤ n) (hm : n ≤ 9223372036854775807) :
    Calls Try.prog 26 #[.pointer (some ⟨B, 0, none⟩), .int .i64 n] w (Raws2 w B (takeS st n.toNat).1 (takeS st n.toNat).2) := by
  have HN := Lib.hid (fun ni e => next_any B st ni w h hl e)
  have hlen : (takeS st n.toNat).2.length ≤ 1099511627776 := by
    unfold takeS
    split
    · simp
    · simp only [List.length_take]; omega
  have HLEN := Lib.hid hlen
  clear hlen
  go_enter Try.func26, Try.ntmps26
  go_wp2_with fail
  with_reducible refine (HN.out n h0 hm).mono ?_
  rintro e w1 ⟨v, rfl, hr, hd⟩
  have HD := Lib.hid hd
  have HR := Lib.hid hr
  clear hr hd HN
  go_wp2_with fail
  have HR2 := Lib.hid HR.out.rd
  with_reducible refine (clone_calls v _ w1 HR2.out HLEN.out).mono ?_
  rintro e w2 ⟨v2, rfl, ho, hb, ht⟩
  have HF : Hid (Raws2 w B (takeS st n.toNat).1 (takeS st n.toNat).2 (.returned v2) w2) := ⟨v2, rfl, Rd.of_own ho, fun k hk => ⟨Nat.le_trans HD.out.2.size (hb k hk), own_lt ho k hk⟩, HD.out.rdr.still ht, HD.out.2.next ht (fun _ _ f => f.elim)⟩
  obtain ⟨A, c, rfl⟩ := owns_shape ho
  clear ho hb ht HD HR HR2
  go_wp2
  go_ret
  exact HF.out

/-- What Open tells. -/
def Opens (B : Nat) (l : List UInt8) (w : World) (e : Ending) (w' : World) : Prop :=
  ∃ v, e = .returned (.tuple #[v, .int .i64 (if l.length < 4 then 2 else if okB l then 0 else 5)]) ∧ (if l.length < 4 then v = .slice none 0 0 ∧ w = w' else (if okB l then Rd w' v (l.take (l.length - 4)) else v = .slice none 0 0) ∧ Makes B w w')

theorem takeS_cut (l : List UInt8) (h : 4 ≤ l.length) : takeS ⟨l, 0⟩ ((l.length : Int) - 4).toNat = (⟨l.drop (l.length - 4), 0⟩, l.take (l.length - 4)) := by
  have e : ((l.length : Int) - 4).toNat = l.length - 4 := by omega
  rw [e]
  unfold takeS
  rw [if_neg (by show ¬ l.length < l.length - 4; omega)]
theorem numS_cut (l : List UInt8) (h : l.length = 4) : (numS ⟨l, 0⟩ 4).2 = val l := by
  unfold numS takeS
  rw [if_neg (by show ¬ l.length < 4; omega)]
  show val (l.take 4) = val l
  rw [List.take_of_length_le (by omega)]

theorem open_short (B : Nat) (u : Value) (l : List UInt8) (w : World) (hu : Rd w u l) (hl : l.length < 4) :
    Calls Try.prog 23 #[.pointer (some ⟨B, 0, none⟩), u] w (Opens B l w) := by
  obtain ⟨A, c, rfl⟩ := hu.shape
  clear hu
  have HF : Hid (Opens B l w (.returned (.tuple #[.slice none 0 0, .int .i64 2])) w) := by
    refine ⟨.slice none 0 0, ?_, ?_⟩
    · rw [if_pos hl]
    · rw [if_pos hl]; exact ⟨rfl, rfl⟩
  generalize l.length = n at hl ⊢
  go_enter Try.func23, Try.ntmps23
  go_wp2
  go_ret2
  exact HF.out

set_option maxHeartbeats 1000000 in
theorem open_long (B : Nat) (m : Bool) (u : Value) (l : List UInt8) (w : World) (h : Tbl w B m) (hu : Rd w u l) (hl : l.length ≤ 549755813888) (h4 : 4 ≤ l.length) :
    Calls Try.prog 23 #[.pointer (some ⟨B, 0, none⟩), u] w (Opens B l w) := by
  have hBw := h.lt
  have HU := Lib.hid hu
  have HT := Lib.hid h
  have hcut := takeS_cut l h4
  have hval := numS_cut (l.drop (l.length - 4)) (by rw [List.length_drop]; omega)
  have hd4 : (l.drop (l.length - 4)).length ≤ 1099511627776 := by rw [List.length_drop]; omega
  have ht4 : (l.take (l.length - 4)).length ≤ 1099511627776 := by rw [List.length_take]; omega
  have hok0 : okB l = decide (val (l.drop (l.length - 4)) = (crc (l.take (l.length - 4))).toNat) := by
    unfold okB
    rw [decide_eq_true h4, Bool.true_and]
  have hfin : ∀ e w', (∃ v, e = .returned (.tuple #[v, .int .i64 (if okB l then 0 else 5)]) ∧ (if okB l then Rd w' v (l.take (l.length - 4)) else v = .slice none 0 0) ∧ Makes B w w') → Opens B l w e w' := by
    rintro e w' ⟨v, he, hv⟩
    exact ⟨v, by rw [if_neg (by omega)]; exact he, by rw [if_neg (by omega)]; exact hv⟩
  have h00 : (St.mk l 0).bs.length ≤ 1099511627776 := Nat.le_trans hl (by omega)
  have H00 := Lib.hid h00
  generalize l.drop (l.length - 4) = tl at *
  generalize l.take (l.length - 4) = bd at *
  have HCUT := Lib.hid hcut
  have HVAL := Lib.hid hval
  have HD4 : Hid ((St.mk tl 0).bs.length ≤ 1099511627776) := hd4
  have HT4 := Lib.hid ht4
  have HOK := Lib.hid hok0
  have HFIN := Lib.hid hfin
  obtain ⟨A, c, rfl⟩ := hu.shape
  clear h hu hcut hval hd4 ht4 hok0 hfin h00
  go_enter Try.func23, Try.ntmps23
  go_wp2_with fail
  with_reducible refine (of_calls _ l w HU.out (by omega)).mono ?_
  rintro e w1 ⟨RB, hRB, rfl, hr, ht⟩
  have HR := Lib.hid hr
  have HTU := Lib.hid ht
  have HT1 := Lib.hid (HT.out.turns ht (fun f => f))
  clear hr ht HT
  go_wp2_with fail
  with_reducible refine (rraw2_calls RB ⟨l, 0⟩ _ w1 HR.out H00.out (by omega) (by omega)).mono ?_
  rw [HCUT.out]
  rintro e w2 ⟨v2, rfl, hv2, hb2, hd2⟩
  have hT2 : Tbl w2 B m := HT1.out.turns hd2.2 (by omega)
  have t2 : Turns (fun i => i = B) w w2 := (HTU.out.mono (fun _ _ f => f.elim)).next hd2.2 (fun i hi hs => by omega)
  have HV2 := Lib.hid hv2
  have hap : Apart B v2 bd := fun _ k hk => by have := (hb2 k hk).1; have := HTU.out.size; omega
  have hap2 : ∀ k, v2.ownBlock = some k → k ≠ RB := fun k hk => by have := (hb2 k hk).1; have := HR.out.lt; omega
  have HAP := Lib.hid hap
  have HAP2 := Lib.hid hap2
  have HR2 := Lib.hid hd2.rdr
  have HT2 := Lib.hid hT2
  have HTU2 := Lib.hid t2
  obtain ⟨A2, c2, rfl⟩ := hv2.shape
  clear hv2 hb2 hd2 hT2 t2 hap hap2 HR HTU HT1
  go_wp2_with fail
  with_reducible refine (rfour_calls RB _ w2 HR2.out HD4.out).mono ?_
  rw [HVAL.out]
  rintro e w3 ⟨rfl, hd3⟩
  have HT3 := Lib.hid (HT2.out.turns hd3.2 (by omega))
  have HTU3 : Hid (Turns (fun i => i = B) w w3) := HTU2.out.next hd3.2 (fun i hi hs => by omega)
  have HV3 := Lib.hid (HV2.out.turns hd3.2 (fun k hk e => HAP2.out k hk e))
  clear hd3 HT2 HTU2 HV2 HR2
  go_wp2_with fail
  with_reducible refine (sum_calls B m _ _ w3 HT3.out HV3.out HAP.out HT4.out).mono ?_
  rintro e w4 ⟨rfl, hm4⟩
  have HM : Hid (Makes B w w4) := ⟨hm4.tbl, HTU3.out.next hm4.2 (fun _ _ h => h)⟩
  have HV4 := Lib.hid (HV3.out.apart hm4.2 HAP.out (fun _ h => h))
  clear hm4 HT3 HTU3 HV3
  cases hok : okB l with
  | true =>
    have HF : Hid (Opens B l w (.returned (.tuple #[.slice A2 bd.length c2, .int .i64 0])) w4) := by
      refine HFIN.out _ _ ⟨.slice A2 bd.length c2, ?_, ?_⟩
      · rw [if_pos hok]
      · rw [if_pos hok]; exact ⟨HV4.out, HM.out⟩
    have he : val tl = (crc bd).toNat := by
      have := HOK.out; rw [hok] at this; simpa using this.symm
    rw [he]
    clear hok he HOK HM HV4 HAP HAP2 HVAL HCUT HD4 HT4 HFIN
    unfold regV
    generalize bd.length = n2 at *
    generalize (crc bd).toNat = x at *
    go_wp2
    go_ret2
    exact HF.out
  | false =>
    have HF : Hid (Opens B l w (.returned (.tuple #[.slice none 0 0, .int .i64 5])) w4) := by
      refine HFIN.out _ _ ⟨.slice none 0 0, ?_, ?_⟩
      · rw [if_neg (by rw [hok]; simp)]
      · rw [if_neg (by rw [hok]; simp)]; exact ⟨rfl, HM.out⟩
    have he : ¬ val tl = (crc bd).toNat := by
      have := HOK.out; rw [hok] at this; simpa using this.symm
    clear hok HOK HM HV4 HAP HAP2 HVAL HCUT HD4 HT4 HFIN
    unfold regV
    generalize bd.length = n2 at *
    generalize (crc bd).toNat = x at *
    generalize val tl = y at *
    have hb1 : ((y : Int) != (x : Int)) = true := by simp; omega
    have hb2 : ((y : Int) == (x : Int)) = false := by simp; omega
    clear he
    go_wp2
    go_ret2
    exact HF.out
end Go.Proofs.Ytnfiaibfhfpmjaa

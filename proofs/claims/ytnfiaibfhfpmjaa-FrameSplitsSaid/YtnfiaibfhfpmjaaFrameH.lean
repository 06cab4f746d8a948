/-
  What a framer's Get tells of bytes that are just as many as they say; what Split tells.
  Conditions: the framer is nobody else's.
-/
import Derived.Test.YtnfiaibfhfpmjaaFrameG
namespace Go.Proofs.Ytnfiaibfhfpmjaa
open Go.RowKit

theorem cut_four (b0 b1 b2 b3 b4 b5 : UInt8) (t : List UInt8) (h : 4 ≤ t.length) : (b0 :: b1 :: b2 :: b3 :: b4 :: b5 :: t).take ((b0 :: b1 :: b2 :: b3 :: b4 :: b5 :: t).length - 4) = b0 :: b1 :: b2 :: b3 :: b4 :: b5 :: t.take (t.length - 4) := by
  have : (b0 :: b1 :: b2 :: b3 :: b4 :: b5 :: t).length - 4 = (t.length - 4) + 6 := by simp only [List.length_cons]; omega
  rw [this]
  simp [List.take_succ_cons]
theorem takeS_all (l : List UInt8) (n : Nat) (h : l.length = n) : takeS ⟨l, 0⟩ n = (⟨[], 0⟩, l) := by
  unfold takeS
  rw [if_neg (by show ¬ l.length < n; omega)]
  show (St.mk (l.drop n) 0, l.take n) = _
  rw [List.drop_of_length_le (by omega), List.take_of_length_le (by omega)]

theorem fget_sum (B : Nat) (m : Bool) (u : Value) (l : List UInt8) (w : World) (h : Tbl w B m) (hu : RdC w u l) (hE : fitsE l = 0) (hok : okB l = false) :
    Calls Try.prog 11 #[.pointer (some ⟨B, 0, none⟩), u] w (Gets B l w) := by
  obtain ⟨b1, b2, b3, b4, b5, t, hl, ht, hm⟩ := fits_zero hE
  have h4 : 4 ≤ l.length := by rw [hl]; simp only [List.length_cons]; omega
  have hG : fgetE l = 5 := by unfold fgetE; rw [if_neg (by simp [hE]), hok]; rfl
  have hfin : ∀ w', Makes B w w' → Gets B l w (.returned (.tuple #[.int .u8 0, .slice none 0 0, .int .i64 5])) w' := by
    intro w' hk
    refine ⟨.slice none 0 0, ?_, ?_, ⟨true, hk.tbl⟩, hk.2⟩
    · rw [hG, if_neg (by decide)]
    · rw [hG, if_neg (by decide)]
  have hc := ffits_calls u l w hu (by omega)
  rw [hE] at hc
  have HC := Lib.hid hc
  have HF := Lib.hid hfin
  have HU := Lib.hid hu
  have HTB := Lib.hid h
  have HOK := Lib.hid hok
  have HOP := Lib.hid (fun W hT hR => open_long B m u l W hT hR (by omega) h4)
  obtain ⟨A, c, rfl⟩ := hu.shape
  clear hu hfin h hG hc hl ht hE hok
  go_enter Try.func11, Try.ntmps11
  go_wp2_with fail
  with_reducible refine HC.out.mono ?_
  rintro e w1 ⟨rfl, ht1⟩
  have HT1 := Lib.hid (HTB.out.turns ht1 (fun f => f))
  have HU1 := Lib.hid (HU.out.still ht1).1
  have HTU := Lib.hid ht1
  clear ht1 HC HTB HU
  go_wp2_with fail
  with_reducible refine (HOP.out w1 HT1.out HU1.out).mono ?_
  rintro e w2 ⟨v, rfl, hv⟩
  rw [if_neg (by omega), HOK.out] at hv
  rw [if_neg (by omega), HOK.out]
  simp only [Bool.false_eq_true, if_false] at hv ⊢
  obtain ⟨rfl, hk⟩ := hv
  have HR := Lib.hid (HF.out w2 ⟨hk.tbl, (HTU.out.mono (fun _ _ f => f.elim)).next hk.2 (fun _ _ h => h)⟩)
  clear hk HT1 HU1 HTU HF HOP HOK
  go_wp2
  go_ret3
  exact HR.out

set_option maxHeartbeats 1000000 in
theorem fget_ok (B : Nat) (m : Bool) (u : Value) (l : List UInt8) (w : World) (h : Tbl w B m) (hu : RdC w u l) (hE : fitsE l = 0) (hok : okB l = true) :
    Calls Try.prog 11 #[.pointer (some ⟨B, 0, none⟩), u] w (Gets B l w) := by
  obtain ⟨b1, b2, b3, b4, b5, t, hl, ht, hm⟩ := fits_zero hE
  have h4 : 4 ≤ l.length := by rw [hl]; simp only [List.length_cons]; omega
  have hBw := h.lt
  have hG : fgetE l = 0 := by unfold fgetE; rw [if_neg (by simp [hE]), hok]; rfl
  have hcut : l.take (l.length - 4) = 1 :: b1 :: b2 :: b3 :: b4 :: b5 :: t.take (t.length - 4) := by rw [hl]; exact cut_four 1 b1 b2 b3 b4 b5 t (by omega)
  have hbd : bodyOf l = t.take (t.length - 4) := by unfold bodyOf; rw [hcut]; rfl
  have hk1 : l.getD 1 0 = b1 := by rw [hl]; rfl
  have hfin : ∀ v w', Rd w' v (t.take (t.length - 4)) → Makes B w w' → Gets B l w (.returned (.tuple #[.int .u8 (b1.toNat : Int), v, .int .i64 0])) w' := by
    intro v w' hr hk
    refine ⟨v, ?_, ?_, ⟨true, hk.tbl⟩, hk.2⟩
    · rw [hG, if_pos rfl, hk1]
    · rw [hG, if_pos rfl, hbd]; exact hr
  have hlen : (t.take (t.length - 4)).length = val [b2, b3, b4, b5] := by rw [List.length_take]; omega
  have hbl : (t.take (t.length - 4)).length ≤ 65536 := by rw [List.length_take]; have : l.length = t.length + 6 := by rw [hl]; rfl
                                                          omega
  have hc := ffits_calls u l w hu (by omega)
  rw [hE] at hc
  have HC := Lib.hid hc
  have HF := Lib.hid hfin
  have HU := Lib.hid hu
  have HTB := Lib.hid h
  have HOK := Lib.hid hok
  have HOP := Lib.hid (fun W hT hR => open_long B m u l W hT hR (by omega) h4)
  have HCUT := Lib.hid hcut
  have HBW := Lib.hid hBw
  obtain ⟨A, c, rfl⟩ := hu.shape
  clear hu hfin h hG hc hl ht hE hok hcut hbd hk1 hBw
  generalize t.take (t.length - 4) = bd at *
  have n1 := numS_one 1 (b1 :: b2 :: b3 :: b4 :: b5 :: bd)
  have n2 := numS_one b1 (b2 :: b3 :: b4 :: b5 :: bd)
  have n3 := numS_four b2 b3 b4 b5 bd
  have n4 := takeS_all bd (val [b2, b3, b4, b5]) hlen
  have hv4 : val [b2, b3, b4, b5] ≤ 65536 := by omega
  clear hlen
  generalize val [b2, b3, b4, b5] = x at *
  have N1 := Lib.hid n1
  have N2 := Lib.hid n2
  have N3 := Lib.hid n3
  have N4 := Lib.hid n4
  have r1 : (St.mk (1 :: b1 :: b2 :: b3 :: b4 :: b5 :: bd) 0).bs.length ≤ 1099511627776 := by simp; omega
  have r2 : (St.mk (b1 :: b2 :: b3 :: b4 :: b5 :: bd) 0).bs.length ≤ 1099511627776 := by simp; omega
  have r3 : (St.mk (b2 :: b3 :: b4 :: b5 :: bd) 0).bs.length ≤ 1099511627776 := by simp; omega
  have r4 : (St.mk bd 0).bs.length ≤ 1099511627776 := by show bd.length ≤ _; omega
  have r0 : (1 :: b1 :: b2 :: b3 :: b4 :: b5 :: bd : List UInt8).length ≤ 1099511627776 := by simp; omega
  have R0 := Lib.hid r0
  have R1 := Lib.hid r1
  have R2 := Lib.hid r2
  have R3 := Lib.hid r3
  have R4 := Lib.hid r4
  clear n1 n2 n3 n4 r0 r1 r2 r3 r4
  go_enter Try.func11, Try.ntmps11
  go_wp2_with fail
  with_reducible refine HC.out.mono ?_
  rintro e w1 ⟨rfl, ht1⟩
  have HT1 := Lib.hid (HTB.out.turns ht1 (fun f => f))
  have HU1 := Lib.hid (HU.out.still ht1).1
  have HTU := Lib.hid ht1
  clear ht1 HC HTB HU
  go_wp2_with fail
  with_reducible refine (HOP.out w1 HT1.out HU1.out).mono ?_
  rintro e w2 ⟨v, rfl, hv⟩
  rw [if_neg (by omega), HOK.out] at hv
  rw [if_neg (by omega), HOK.out]
  simp only [if_true] at hv ⊢
  obtain ⟨hr2, hk⟩ := hv
  rw [HCUT.out] at hr2
  have HM2 : Hid (Makes B w w2) := ⟨hk.tbl, (HTU.out.mono (fun _ _ f => f.elim)).next hk.2 (fun _ _ h => h)⟩
  have HR2 := Lib.hid hr2
  obtain ⟨A2, c2, rfl⟩ := hr2.shape
  clear hk hr2 HT1 HU1 HTU HOP HOK HCUT
  generalize (1 :: b1 :: b2 :: b3 :: b4 :: b5 :: bd : List UInt8).length = n2 at HR2 ⊢
  go_wp2_with fail
  with_reducible refine (of_calls _ (1 :: b1 :: b2 :: b3 :: b4 :: b5 :: bd) w2 HR2.out R0.out).mono ?_
  rintro e w3 ⟨RB, hRB, rfl, hd3, ht3⟩
  have HD3 := Lib.hid hd3
  have HM3 : Hid (Makes B w w3) := ⟨HM2.out.tbl.turns ht3 (fun f => f), HM2.out.2.next ht3 (fun _ _ f => f.elim)⟩
  have hRBw : RB ≠ B ∧ w.heap.size ≤ RB := by have := HM2.out.2.size; have := HBW.out; omega
  clear hd3 ht3 HM2 HR2
  go_wp2_with fail
  with_reducible refine (rbyte_calls RB _ w3 HD3.out R1.out).mono ?_
  rw [N1.out]
  rintro e w4 ⟨rfl, hd4⟩
  have HD4 := Lib.hid hd4.rdr
  have HM4 : Hid (Makes B w w4) := ⟨HM3.out.tbl.turns hd4.2 (by omega), HM3.out.2.next hd4.2 (fun i hi hs => by omega)⟩
  clear hd4 HD3 HM3 N1 R1
  go_wp2_with fail
  with_reducible refine (rbyte_calls RB _ w4 HD4.out R2.out).mono ?_
  rw [N2.out]
  rintro e w5 ⟨rfl, hd5⟩
  have HD5 := Lib.hid hd5.rdr
  have HM5 : Hid (Makes B w w5) := ⟨HM4.out.tbl.turns hd5.2 (by omega), HM4.out.2.next hd5.2 (fun i hi hs => by omega)⟩
  clear hd5 HD4 HM4 N2 R2
  go_wp2_with fail
  with_reducible refine (rfour_calls RB _ w5 HD5.out R3.out).mono ?_
  rw [N3.out]
  rintro e w6 ⟨rfl, hd6⟩
  have HD6 := Lib.hid hd6.rdr
  have HM6 : Hid (Makes B w w6) := ⟨HM5.out.tbl.turns hd6.2 (by omega), HM5.out.2.next hd6.2 (fun i hi hs => by omega)⟩
  clear hd6 HD5 HM5 N3 R3
  go_wp2_with fail
  have hxi : ((x : Int)).toNat = x := by omega
  with_reducible refine (rraw2_calls RB ⟨bd, 0⟩ _ w6 HD6.out R4.out (by omega) (by omega)).mono ?_
  rw [hxi, N4.out]
  rintro e w7 ⟨v7, rfl, hr7, hb7, hd7⟩
  have HG := Lib.hid (HF.out v7 w7 hr7 ⟨HM6.out.tbl.turns hd7.2 (by omega), HM6.out.2.next hd7.2 (fun i hi hs => by omega)⟩)
  obtain ⟨A7, c7, rfl⟩ := hr7.shape
  clear hr7 hb7 hd7 HD6 HM6 HF N4 R4
  go_wp2
  go_ret3
  exact HG.out
theorem fget_calls (B : Nat) (m : Bool) (u : Value) (l : List UInt8) (w : World) (h : Tbl w B m) (hu : RdC w u l) (hm : l.length ≤ 9223372036854775807) :
    Calls Try.prog 11 #[.pointer (some ⟨B, 0, none⟩), u] w (Gets B l w) := by
  by_cases hE : fitsE l = 0
  · cases hok : okB l with
    | true => exact fget_ok B m u l w h hu hE hok
    | false => exact fget_sum B m u l w h hu hE hok
  · exact fget_bad B m u l w h hu hm hE
end Go.Proofs.Ytnfiaibfhfpmjaa

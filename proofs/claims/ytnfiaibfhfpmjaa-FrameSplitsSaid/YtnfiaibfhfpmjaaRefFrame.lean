/-
  What the document's own functions tell of a frame: how many bytes its head says, what it has, or what is wrong first; nothing that was there turns.
  Conditions: at most 2^39 bytes.
-/
import Derived.Test.YtnfiaibfhfpmjaaFrameH
import Derived.Test.YtnfiaibfhfpmjaaRefSeal
import Derived.Test.YtnfiaibfhfpmjaaRefV
namespace Go.Proofs.Ytnfiaibfhfpmjaa
open Go.RowKit

theorem cut_bytes (s : ByteArray) (i j : Nat) : (s.extract i j).data.toList = (s.data.toList.drop i).take (j - i) := by
  rw [ByteArray.data_extract, Array.toList_extract]
theorem refsize_calls (s : ByteArray) (w : World) (hs : s.size ≤ 9223372036854775807) :
    Calls Try.prog 14 #[.string s] w fun e w' => e = .returned (.tuple #[.int .u64 (saidN s.data.toList), .int .i64 (saidE s.data.toList)]) ∧ w = w' := by
  have hbl := bytes_length s
  have hE : saidE s.data.toList = if s.size < 10 then 2 else if s.data.toList.getD 0 0 = 1 then 0 else 6 := by unfold saidE; rw [hbl]
  have hN : saidN s.data.toList = if saidE s.data.toList = 0 then 10 + val ((s.data.toList.drop 2).take 4) else 0 := rfl
  have hv := val4 ((s.data.toList.drop 2).take 4) (by rw [List.length_take]; omega)
  generalize saidN s.data.toList = N at *
  generalize saidE s.data.toList = E at *
  by_cases h10 : s.size < 10
  · rw [if_pos h10] at hE
    subst hE
    rw [if_neg (by decide)] at hN
    subst hN
    clear hv hbl
    go_enter Try.func14, Try.ntmps14
    go_wp2
    go_ret2
    exact ⟨rfl, rfl⟩
  · rw [if_neg h10] at hE
    have hpos : 0 < s.size := by omega
    have h0 : s.data.toList.getD 0 0 = s[0]'hpos := by
      rw [List.getD_eq_getElem?_getD, List.getElem?_eq_getElem (by rw [hbl]; omega), Option.getD_some]
      exact data_at s 0 (by omega)
    rw [h0] at hE
    have hex : (s.extract 2 6).data.toList = (s.data.toList.drop 2).take 4 := cut_bytes s 2 6
    have hxs : (s.extract 2 6).size = 4 := by rw [ByteArray.size_extract]; omega
    have HV := Lib.hid (fun W => value_calls (s.extract 2 6) W (by omega))
    rw [← hex] at hN hv
    clear hex h0 hbl
    generalize val (s.extract 2 6).data.toList = x at *
    generalize hb : s[0] = b at *
    have HB := Lib.hid hb
    by_cases hb1 : b = 1
    · rw [if_pos hb1] at hE
      subst hE
      rw [if_pos rfl] at hN
      subst hN
      have hbz : (s[0].toNat : Int) = 1 := by rw [hb, hb1]; rfl
      clear hb hb1
      go_enter Try.func14, Try.ntmps14
      go_wp2_with fail
      with_reducible refine (HV.out w).mono ?_
      rintro e w1 ⟨rfl, rfl⟩
      go_wp2
      go_ret2
      exact ⟨by go_num, rfl⟩
    · rw [if_neg hb1] at hE
      subst hE
      rw [if_neg (by decide)] at hN
      subst hN
      have hne : ¬ (s[0].toNat : Int) = 1 := by
        rw [hb]
        intro e
        apply hb1
        apply UInt8.toNat_inj.1
        show b.toNat = 1
        omega
      have hn1 : ((s[0].toNat : Int) != 1) = true := by simpa using hne
      have hn2 : ((s[0].toNat : Int) == 1) = false := by simpa using hne
      clear hb hb1 hne
      go_enter Try.func14, Try.ntmps14
      go_wp2
      go_ret2
      exact ⟨rfl, rfl⟩

/-- What the document's Get tells. -/
def RefGets (l : List UInt8) (w : World) (e : Ending) (w' : World) : Prop :=
  e = .returned (.tuple #[.int .u8 (if fgetE l = 0 then ((l.getD 1 0).toNat : Int) else 0), .string ⟨(if fgetE l = 0 then bodyOf l else []).toArray⟩, .int .i64 (fgetE l)]) ∧ Turns (fun _ => False) w w'
theorem refget_bad (s : ByteArray) (w : World) (hs : s.size ≤ 549755813888) (hE : fitsE s.data.toList ≠ 0) :
    Calls Try.prog 12 #[.string s] w (RefGets s.data.toList w) := by
  have hG : fgetE s.data.toList = fitsE s.data.toList := by unfold fgetE; rw [if_pos hE]
  have HF : Hid (RefGets s.data.toList w (.returned (.tuple #[.int .u8 0, .string ⟨#[]⟩, .int .i64 (fitsE s.data.toList)])) w) := by
    refine ⟨?_, Turns.refl _ _⟩
    rw [hG, if_neg hE, if_neg hE]
  have HC := Lib.hid (refsize_calls s w (by omega))
  have hbl := bytes_length s
  have hF : fitsE s.data.toList = if 65536 < s.data.toList.length then 3 else if saidE s.data.toList ≠ 0 then saidE s.data.toList else if s.data.toList.length < saidN s.data.toList then 2 else if saidN s.data.toList < s.data.toList.length then 3 else 0 := rfl
  have hNl := saidN_lt s.data.toList
  rw [hbl] at hF
  clear hbl hG
  generalize saidN s.data.toList = N at *
  generalize saidE s.data.toList = E at *
  generalize fitsE s.data.toList = F at *
  generalize RefGets s.data.toList w = R at *
  by_cases h0 : 65536 < s.size
  · rw [if_pos h0] at hF
    subst hF
    clear hE HC
    go_enter Try.func12, Try.ntmps12
    go_wp2
    go_ret3
    exact HF.out
  · rw [if_neg h0] at hF
    by_cases h1 : E ≠ 0
    · rw [if_pos h1] at hF
      have e1 : (E != 0) = true := by simpa using h1
      have e2 : (E == 0) = false := by simpa using h1
      rw [hF] at HF
      clear hF hE h1
      go_enter Try.func12, Try.ntmps12
      go_wp2_with fail
      with_reducible refine HC.out.mono ?_
      rintro e w1 ⟨rfl, rfl⟩
      clear HC
      go_wp2
      go_ret3
      exact HF.out
    · rw [if_neg h1] at hF
      obtain rfl : E = 0 := by omega
      clear h1
      have hw : IntKind.u64.wrap (s.size : Int) = (s.size : Int) := by rw [IntKind.wrap_u64]; omega
      by_cases h2 : s.size < N
      · rw [if_pos h2] at hF
        subst hF
        clear hE
        go_enter Try.func12, Try.ntmps12
        go_wp2_with fail
        with_reducible refine HC.out.mono ?_
        rintro e w1 ⟨rfl, rfl⟩
        clear HC
        go_wp2
        go_ret3
        exact HF.out
      · rw [if_neg h2] at hF
        by_cases h3 : N < s.size
        · rw [if_pos h3] at hF
          subst hF
          clear hE
          go_enter Try.func12, Try.ntmps12
          go_wp2_with fail
          with_reducible refine HC.out.mono ?_
          rintro e w1 ⟨rfl, rfl⟩
          clear HC
          go_wp2
          go_ret3
          exact HF.out
        · rw [if_neg h3] at hF
          exact absurd hF hE

theorem fits_said {l : List UInt8} (h : fitsE l = 0) : saidE l = 0 ∧ saidN l = l.length ∧ l.length ≤ 65536 := by
  unfold fitsE at h
  split at h
  · omega
  split at h
  · omega
  split at h
  · omega
  split at h
  · omega
  omega
/-- The document's Open, where it tells what was sealed, and where not. -/
theorem refopen_no (l : List UInt8) (w : World) (h4 : 4 ≤ l.length) (hl : l.length ≤ 549755813888) (hok : okB l = false) :
    Calls Try.prog 28 #[.string ⟨l.toArray⟩] w fun e w' => e = .returned (.tuple #[.string ⟨#[]⟩, .int .i64 5]) ∧ Turns (fun _ => False) w w' :=
  (refopen_long l w h4 hl).mono fun e w' ⟨he, ht⟩ => ⟨by rw [he, hok, if_neg (show ¬ l.length < 4 by omega)]; rfl, ht⟩
theorem refopen_yes (l : List UInt8) (w : World) (h4 : 4 ≤ l.length) (hl : l.length ≤ 549755813888) (hok : okB l = true) :
    Calls Try.prog 28 #[.string ⟨l.toArray⟩] w fun e w' => e = .returned (.tuple #[.string ⟨(l.take (l.length - 4)).toArray⟩, .int .i64 0]) ∧ Turns (fun _ => False) w w' :=
  (refopen_long l w h4 hl).mono fun e w' ⟨he, ht⟩ => ⟨by rw [he, hok, if_neg (show ¬ l.length < 4 by omega)]; rfl, ht⟩
theorem refget_sum (l : List UInt8) (w : World) (hE : fitsE l = 0) (hok : okB l = false) :
    Calls Try.prog 12 #[.string ⟨l.toArray⟩] w (RefGets l w) := by
  obtain ⟨h1, h2, h3⟩ := fits_said hE
  obtain ⟨b1, b2, b3, b4, b5, t, hl, ht, _⟩ := fits_zero hE
  have h4 : 4 ≤ l.length := by rw [hl]; simp only [List.length_cons]; omega
  have hsz : (ByteArray.mk l.toArray).size = l.length := by simp [ByteArray.size]
  have hc := refsize_calls ⟨l.toArray⟩ w (by rw [hsz]; omega)
  rw [show (ByteArray.mk l.toArray).data.toList = l from by simp, h1, h2, ← hsz] at hc
  have ho := fun W => refopen_no l W h4 (by omega) hok
  have hG : fgetE l = 5 := by unfold fgetE; rw [if_neg (by simp [hE]), hok]; rfl
  have HF : Hid (∀ w', Turns (fun _ => False) w w' → RefGets l w (.returned (.tuple #[.int .u8 0, .string ⟨#[]⟩, .int .i64 5])) w') := by
    intro w' htu
    refine ⟨?_, htu⟩
    rw [hG, if_neg (by decide), if_neg (by decide)]
  have hs3 : (ByteArray.mk l.toArray).size ≤ 65536 := by omega
  have HC := Lib.hid hc
  have HO := Lib.hid ho
  clear hc ho hok hl ht hE h1 h2 hG hsz h3 h4
  generalize RefGets l w = R at *
  generalize ByteArray.mk l.toArray = s at *
  have hw : IntKind.u64.wrap (s.size : Int) = (s.size : Int) := by rw [IntKind.wrap_u64]; omega
  go_enter Try.func12, Try.ntmps12
  go_wp2_with fail
  with_reducible refine HC.out.mono ?_
  rintro e w1 ⟨rfl, rfl⟩
  go_wp2_with fail
  with_reducible refine (HO.out w).mono ?_
  rintro e w2 ⟨rfl, ht2⟩
  have HR := Lib.hid (HF.out w2 ht2)
  clear ht2 HF HC HO
  go_wp2
  go_ret3
  exact HR.out
theorem refget_ok (l : List UInt8) (w : World) (hE : fitsE l = 0) (hok : okB l = true) :
    Calls Try.prog 12 #[.string ⟨l.toArray⟩] w (RefGets l w) := by
  obtain ⟨h1, h2, h3⟩ := fits_said hE
  obtain ⟨b1, b2, b3, b4, b5, t, hl, ht, _⟩ := fits_zero hE
  have h4 : 4 ≤ l.length := by rw [hl]; simp only [List.length_cons]; omega
  have hsz : (ByteArray.mk l.toArray).size = l.length := by simp [ByteArray.size]
  have hc := refsize_calls ⟨l.toArray⟩ w (by rw [hsz]; omega)
  rw [show (ByteArray.mk l.toArray).data.toList = l from by simp, h1, h2, ← hsz] at hc
  have ho := fun W => refopen_yes l W h4 (by omega) hok
  have hG : fgetE l = 0 := by unfold fgetE; rw [if_neg (by simp [hE]), hok]; rfl
  have hcut : l.take (l.length - 4) = 1 :: b1 :: b2 :: b3 :: b4 :: b5 :: t.take (t.length - 4) := by rw [hl]; exact cut_four 1 b1 b2 b3 b4 b5 t (by omega)
  have hbd : bodyOf l = t.take (t.length - 4) := by unfold bodyOf; rw [hcut]; rfl
  have hk1 : l.getD 1 0 = b1 := by rw [hl]; rfl
  have hlb : (t.take (t.length - 4)).length ≤ 65536 := by rw [List.length_take]; have : l.length = t.length + 6 := by rw [hl]; rfl
                                                          omega
  rw [hcut] at ho
  generalize t.take (t.length - 4) = bd at *
  have HF : Hid (∀ w', Turns (fun _ => False) w w' → RefGets l w (.returned (.tuple #[.int .u8 (b1.toNat : Int), .string ⟨bd.toArray⟩, .int .i64 0])) w') := by
    intro w' htu
    refine ⟨?_, htu⟩
    rw [hG, if_pos rfl, if_pos rfl, hk1, hbd]
  have hs3 : (ByteArray.mk l.toArray).size ≤ 65536 := by omega
  have HC := Lib.hid hc
  have HO := Lib.hid ho
  clear hc ho hok hl ht hE h1 h2 hG hsz h3 h4 hcut hbd hk1
  generalize RefGets l w = R at *
  generalize ByteArray.mk l.toArray = s at *
  have hw : IntKind.u64.wrap (s.size : Int) = (s.size : Int) := by rw [IntKind.wrap_u64]; omega
  obtain ⟨y, hy⟩ : ∃ y, y = ByteArray.mk (1 :: b1 :: b2 :: b3 :: b4 :: b5 :: bd).toArray := ⟨_, rfl⟩
  have hysz : y.size = bd.length + 6 := by rw [hy]; simp [ByteArray.size]
  have hy1 : 1 < y.size := by omega
  have hy6 : 6 ≤ y.size := by omega
  have hyl : y.size ≤ 65542 := by omega
  have hyb : y[1]'hy1 = b1 := by subst hy; rfl
  have hyx : y.extract 6 y.size = ByteArray.mk bd.toArray := by
    apply ByteArray.ext
    apply Array.toList_inj.1
    rw [cut_bytes, hysz, hy]
    show (bd.take (bd.length + 6 - 6)) = bd
    rw [List.take_of_length_le (by omega)]
  rw [← hy] at HO
  rw [← hyb, ← hyx] at HF
  clear hy hysz hyb hyx
  have hy1i : (1 : Int) < (y.size : Int) := by omega
  have hy6i : (6 : Int) ≤ (y.size : Int) := by omega
  go_enter Try.func12, Try.ntmps12
  go_wp2_with fail
  with_reducible refine HC.out.mono ?_
  rintro e w1 ⟨rfl, rfl⟩
  go_wp2_with fail
  with_reducible refine (HO.out w).mono ?_
  rintro e w2 ⟨rfl, ht2⟩
  have HR := Lib.hid (HF.out w2.drew ht2.drew)
  clear ht2 HF HC HO
  go_wp2
  go_region
  all_goals
    go_wp2
    go_ret3
    exact HR.out
theorem refget_calls (l : List UInt8) (w : World) (hl : l.length ≤ 549755813888) :
    Calls Try.prog 12 #[.string ⟨l.toArray⟩] w (RefGets l w) := by
  by_cases hE : fitsE l = 0
  · cases hok : okB l with
    | false => exact refget_sum l w hE hok
    | true => exact refget_ok l w hE hok
  · have := refget_bad ⟨l.toArray⟩ w (by simpa [ByteArray.size] using hl) (by simpa using hE)
    simpa using this
end Go.Proofs.Ytnfiaibfhfpmjaa

/-
  What the Writer's Text does with a text that is too long: its first 65535 bytes are written.
  Conditions: all that is written stays below 2^40 bytes.
-/
import Derived.Test.YtgipafdfmghogaaWriteC
import Derived.Test.YtgipafdfmghogaaReadB
import Derived.Test.YtgipafdfmghogaaLives
import Derived.Lib.IndexBytes
namespace Go.Proofs.Ytgipafdfmghogaa
open Go.RowKit

set_option maxHeartbeats 1000000 in
theorem text_long (B : Nat) (v : Value) (bs : List UInt8) (s : ByteArray) (M : Nat) (w : World) (h : Wtr w B v bs) (hM : M = 65535) (hs : M < s.size) (hz : s.size ≤ 1099511627776) (hroom : bs.length + 65545 ≤ 1099511627776) :
    Calls Try.prog 13 #[.pointer (some ⟨B, 0, none⟩), .string s] w (Wrote w B v (bs ++ (le M 2 ++ s.data.toList.take M))) := by
  obtain ⟨i0, hi, hz0, hz1, hz2⟩ := info_parts infoByte
  obtain ⟨t, ht⟩ : ∃ t, t = s.extract 0 M := ⟨_, rfl⟩
  have htl : t.data.toList = s.data.toList.take M := by
    rw [ht, Lib.extract_data]; simp
  have hts : t.size = M := by
    rw [← bytes_length, htl, List.length_take, bytes_length]; omega
  rw [← htl]
  have HTL := Lib.hid ht
  have HTS := Lib.hid hts
  have HM := Lib.hid hM
  have hM1 : M ≤ 65535 := by omega
  have hs2 : (65535 : Int) < (s.size : Int) := by omega
  clear htl ht hts hM
  go_enter Try.func13, Try.ntmps13
  go_wp2_with fail
  rw [show (65535 : Nat) = M from HM.out.symm, show (65535 : Int) = (M : Int) by rw [HM.out]; simp, ← HTL.out, Nat.min_eq_left (Nat.le_of_lt hs)]
  clear hs2
  with_reducible refine (two_calls B v bs M w h (by omega) (by omega)).mono ?_
  rintro e w1 ⟨rfl, v1, hw1, ho1, ht1⟩
  have hc := hw1.cell
  have hf := hw1.free
  have hll := le_length M 2
  have HW := Lib.hid hw1
  have HT := Lib.hid ht1
  have HO := Lib.hid ho1
  have htz : t.size ≤ 65535 := by rw [HTS.out]; exact hM1
  clear hw1 ht1 ho1 hs hz hM1
  go_wp2_with (at_builtin; refine wpList_append_src _ rfl (.tmp 19) (.tmp 20) 30 9 (by rfl) 5 i0 _ 1 1 Try.underlying30 hi hz0 hz1 hz2 rfl v1 (bs ++ le M 2).length (cellsOf (bs ++ le M 2)) (by rfl) HW.out.2 (.string t) t.size (cellsOf t.data.toList) (by rfl) (Src.ofString _ Try.underlying9 t) (by simp [maxLen, hll]; omega) (by simp [hll]; omega) ?_; intro A2 c2 w2 ho2 hg2 ha2; obtain ⟨hc2, hf2⟩ := HW.out.after (Turns.refl _ _) hg2)
  have e2 : (bs ++ le M 2).length + t.size = bs.length + 2 + t.size := by simp [hll]
  rw [e2] at ho2 ha2
  have R : Went w B v (bs ++ (le M 2 ++ t.data.toList)) (w2.setCell ⟨B, 0, none⟩ (.slice A2 (bs.length + 2 + t.size) c2)) := by
    have hp := Went.put HW.out (Turns.refl _ _) (by simp only [List.length_append, hll, bytes_length]) ho2 hg2 ha2
    rw [List.append_assoc] at hp
    exact Went.next HO.out HT.out hp
  go_ret
  exact ⟨rfl, R⟩
end Go.Proofs.Ytgipafdfmghogaa

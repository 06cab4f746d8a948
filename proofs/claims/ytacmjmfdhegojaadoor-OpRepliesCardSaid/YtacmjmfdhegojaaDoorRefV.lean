/-
  What the document's Value tells of at most eight bytes: the number whose bytes they are, the lowest first.
  Conditions: none but that.
-/
import Derived.Test.YtacmjmfdhegojaaDoorRead
import Derived.Test.YtacmjmfdhegojaaDoorRef
import Derived.Lib.IndexBytes
namespace Go.Proofs.YtacmjmfdhegojaaDoor
open Go.RowKit

theorem val_drop (l : List UInt8) (j : Nat) (hj : j < l.length) : val (l.drop j) = l[j].toNat + 256 * val (l.drop (j + 1)) := by
  rw [List.drop_eq_getElem_cons hj, val]

theorem data_at (s : ByteArray) (j : Nat) (hj : j < s.size) : s.data.toList[j]'(by rw [bytes_length]; exact hj) = s[j] := rfl

set_option maxRecDepth 20000 in
theorem value_calls (s : ByteArray) (w : World) (hs : s.size ≤ 8) :
    Calls Tryd.prog 53 #[.string s] w fun e w' => e = .returned (.int .u64 (val s.data.toList)) ∧ w = w' := by
  have hbl := bytes_length s
  have HB := Lib.hid hbl
  clear hbl
  go_enter Tryd.func53, Tryd.ntmps53
  go_wp2
  go_loop [3, 4] (fun x i => ∃ k : Nat, k ≤ s.size ∧ i = .int .i64 ((k : Int) - 1) ∧ x = .int .u64 (val (s.data.toList.drop k))) (fun _ i => (intOf i + 1).toNat)
  case atStart => exact ⟨s.size, Nat.le_refl _, rfl, by rw [List.drop_of_length_le (by rw [HB.out]; omega)]; rfl⟩
  case round =>
    obtain ⟨k, hk, rfl, rfl⟩ := hrel
    rcases Nat.eq_zero_or_pos k with h0 | h0
    · subst h0
      go_wp2
      go_ret
      exact ⟨by simp, rfl⟩
    · obtain ⟨j, rfl⟩ : ∃ j, k = j + 1 := ⟨k - 1, by omega⟩
      have hv := val_drop s.data.toList j (by rw [HB.out]; omega)
      rw [data_at s j (by omega)] at hv
      have hlt := val_lt (s.data.toList.drop (j + 1))
      have hlt2 : val (s.data.toList.drop (j + 1)) < 72057594037927936 := by
        refine Nat.lt_of_lt_of_le hlt ?_
        have : 256 ^ (s.data.toList.drop (j + 1)).length ≤ 256 ^ 7 := Nat.pow_le_pow_right (by omega) (by rw [List.length_drop, HB.out]; omega)
        simpa using this
      have HV := Lib.hid hv
      clear hv hlt
      generalize val (s.data.toList.drop (j + 1)) = x at *
      have hcb : (s[j].toNat : Int) < 256 := by have := s[j].toNat_lt; omega
      have e1 : ((j + 1 : Nat) : Int) - 1 = (j : Int) := by omega
      rw [e1]
      have hw1 : IntKind.u64.wrap ((x : Int) * 256) = (x : Int) * 256 := by rw [IntKind.wrap_u64]; omega
      have hw2 : IntKind.u64.wrap ((x : Int) * 256 + (s[j].toNat : Int)) = (x : Int) * 256 + (s[j].toNat : Int) := by rw [IntKind.wrap_u64]; omega
      clear e1 hlt2
      go_wp2
      go_round
      case rel => exact ⟨j, by omega, by go_num, by rw [HV.out]; go_num⟩
      case measure => simp [intOf]
end Go.Proofs.YtacmjmfdhegojaaDoor

/-
  A board's bytes: Write, and the law's bytes.
  Conditions: each theorem's own.
-/
import Derived.Test.YtkcddihigagknaaAdvT
import Derived.Test.YtkcddihigagknaaOpWr
import Derived.Test.YtkcddihigagknaaOpRef
namespace Go.Proofs.Ytkcddihigagknaa
open Go.RowKit

/-- A board's bytes, of the first k nodes. -/
def boardK (L : List UInt8) (k : Nat) : List UInt8 := UInt8.ofNat L.length :: L.take k
theorem boardK_zero (L : List UInt8) : boardK L 0 = [] ++ le L.length 1 := by simp [boardK, le]
theorem boardK_succ (L : List UInt8) {k : Nat} (hk : k < L.length) : boardK L (k + 1) = boardK L k ++ le (of16 L k) 1 := by
  have e : le (of16 L k) 1 = [L[k]] := by
    have : of16 L k = L[k].toNat := by
      unfold of16
      rw [List.getD_eq_getElem?_getD, List.getElem?_eq_getElem hk]
      rfl
    rw [this]
    exact le_one14 _
  rw [e]
  unfold boardK
  rw [List.take_succ_eq_append_getElem hk]
  rfl
theorem boardK_all (L : List UInt8) : boardK L L.length = boardB L := by
  unfold boardK boardB
  rw [List.take_length]
theorem boardK_len (L : List UInt8) (k : Nat) : (boardK L k).length ≤ k + 1 := by
  unfold boardK
  rw [List.length_cons]
  have := List.length_take_le k L
  omega

set_option maxRecDepth 100000 in
set_option maxHeartbeats 2000000 in
theorem Write16_calls {w W : World} {B A c R : Nat} {L : List UInt8} (h : Bd16 w B A c L) (hW : NW14 w R [] W) :
    Calls Try.prog 27 #[.pointer (some ⟨B, 0, none⟩), .pointer (some ⟨R, 0, none⟩)] W fun e w' => e = .returned (.tuple #[]) ∧ NW14 w R (boardB L) w' := by
  have hlen := h.good.len
  have HH := Lib.hid h
  have HLOW : Hid (∀ i, of16 L i ≤ 3) := h.good.of
  have HNO := Lib.hid (Nodes16_calls (h.later hW.2.2))
  have HW := Lib.hid hW
  have HSU : Hid (∀ k, k < L.length → boardK L (k + 1) = boardK L k ++ le (of16 L k) 1) := fun k hk => boardK_succ L hk
  have HZE := Lib.hid (boardK_zero L)
  have HAL := Lib.hid (boardK_all L)
  clear h hW
  obtain ⟨n, hn⟩ : ∃ n, n = L.length := ⟨_, rfl⟩
  rw [← hn] at hlen HNO HSU HZE HAL
  have HN := Lib.hid hn
  clear hn
  have hcv : IntKind.u8.wrap (n : Int) = n := by rw [IntKind.wrap_u8']; omega
  have HBY : Hid (∀ W', NW14 w R [] W' → Calls Try.prog 34 #[.pointer (some ⟨R, 0, none⟩), .int .u8 (n : Int)] W' (Grows14 w W' R ([] ++ le n 1))) := fun W' hn' => hn'.byte n n rfl (by omega) (by simp)
  go_enter Try.func27, Try.ntmps27
  go_wp2_with fail
  with_reducible refine HNO.out.mono ?_
  rintro e w1 ⟨rfl, rfl⟩
  clear HNO
  go_wp2_with fail
  with_reducible refine (HBY.out _ HW.out).mono ?_
  rintro e w2 ⟨rfl, hn2, _⟩
  rw [← HZE.out] at hn2
  have HN2 := Lib.hid hn2
  have hc := (HH.out.later hn2.2.2).cell
  rw [← HN.out] at hc
  clear hn2 HBY HW HZE
  go_wp2
  go_loopg [16] n (fun gg s16 wr => ∃ k : Nat, k ≤ n ∧ n - k ≤ gg ∧ s16 = .int .i64 k ∧ Hid (NW14 w R (boardK L k) wr))
  case atStart => exact ⟨0, Nat.zero_le _, by omega, rfl, HN2.out⟩
  case round =>
    clear HN2 hc
    obtain ⟨k, hk, hg, rfl, HK⟩ := hrel
    generalize wr = wo at *
    by_cases hlt : k < n
    case neg =>
      obtain rfl : k = n := by omega
      go_wp2
      go_end0
      exact ⟨rfl, HAL.out ▸ HK.out⟩
    have hcl := (HH.out.later HK.out.2.2).at_ k (by rw [← HN.out]; exact hlt)
    have hlo : of16 L k ≤ 3 := HLOW.out k
    have hbl := boardK_len L k
    have d1 : (0 : Int) ≤ k ∧ (k : Int) < n := by omega
    have HB2 : Hid (Calls Try.prog 34 #[.pointer (some ⟨R, 0, none⟩), .int .u8 (of16 L k : Nat)] wo (Grows14 w wo R (boardK L (k + 1)))) := by
      rw [HSU.out k hlt]
      exact HK.out.byte _ (of16 L k) rfl (by omega) (by omega)
    generalize of16 L k = x at *
    clear hlo hbl HK
    go_wp2_with fail
    with_reducible refine HB2.out.mono ?_
    rintro e w3 ⟨rfl, hn3, _⟩
    have HN3 := Lib.hid hn3
    clear hn3 HB2 hcl
    go_wp2
    go_roundg (n - (k + 1))
    case measure => omega
    case rel => exact ⟨k + 1, by omega, by omega, by go_num, HN3.out⟩

set_option maxRecDepth 100000 in
theorem bytes16_calls {w : World} {B A c : Nat} {L : List UInt8} (h : Bd16 w B A c L) :
    Calls Try.prog 12 #[.pointer (some ⟨B, 0, none⟩)] w (Says14 (.string (tx14 (boardB L))) w) := by
  have HWR : Hid (∀ W, NW14 w w.heap.size [] W → Calls Try.prog 27 #[.pointer (some ⟨B, 0, none⟩), .pointer (some ⟨w.heap.size, 0, none⟩)] W fun e w' => e = .returned (.tuple #[]) ∧ NW14 w w.heap.size (boardB L) w') := fun W hW => Write16_calls h hW
  have hl : (boardB L).length ≤ 1000000 := by
    have := h.good.len
    unfold boardB
    rw [List.length_cons]
    omega
  have HL := Lib.hid hl
  clear hl
  have HZ := Lib.hid (NW14.zero w)
  clear h
  generalize boardB L = bs at *
  go_enter Try.func12, Try.ntmps12
  go_wp2_with fail
  with_reducible refine (HWR.out _ HZ.out).mono ?_
  rintro e w1 ⟨rfl, hn⟩
  have HN := Lib.hid hn
  clear hn HWR HZ
  go_wp2_with fail
  with_reducible refine (NW14.bytes HN.out HL.out).mono ?_
  rintro e w2 ⟨v, rfl, ho, _, hb⟩
  obtain ⟨A3, c3, rfl⟩ := owns_shape ho
  have hcv := conv14 (Rd.of_own ho)
  have HB := Lib.hid hb
  clear ho hb HN
  go_wp2
  go_ret
  exact ⟨rfl, HB.out⟩
end Go.Proofs.Ytkcddihigagknaa

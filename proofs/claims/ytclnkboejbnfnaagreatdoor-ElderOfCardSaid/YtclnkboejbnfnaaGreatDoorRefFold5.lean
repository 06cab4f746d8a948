/-
  The document's Fold: byte by byte, each great letter looked up among 26.
  Conditions: the text has at most 1000 bytes.
-/
import Derived.Test.YtclnkboejbnfnaaGreatDoorRef5
import Derived.Test.YtclnkboejbnfnaaGreatDoorFold
import Derived.Laws.Concat
namespace Go.Proofs.YtclnkboejbnfnaaGreatDoor
open Go.RowKit

/-- What the byte x has become when j great letters were looked at. -/
def cur5 (x : UInt8) (j : Nat) : ByteArray := if 65 ≤ x.toNat ∧ x.toNat < 65 + j then ⟨#[x + 32]⟩ else ⟨#[x]⟩
theorem cur5_zero (x : UInt8) : cur5 x 0 = ⟨#[x]⟩ := by unfold cur5; rw [if_neg (by omega)]
theorem cur5_end (x : UInt8) : cur5 x 26 = ⟨#[foldC x]⟩ := by
  unfold cur5 foldC inR
  by_cases h : 65 ≤ x.toNat ∧ x.toNat < 65 + 26
  · have : (decide (65 ≤ x.toNat) && decide (x.toNat ≤ 90)) = true := by simp; omega
    rw [if_pos h, if_pos this]
  · have : ¬ (decide (65 ≤ x.toNat) && decide (x.toNat ≤ 90)) = true := by simp; omega
    rw [if_neg h, if_neg this]
theorem cur5_hit (x : UInt8) (j : Nat) (h : x.toNat = 65 + j) : cur5 x (j + 1) = ⟨#[x + 32]⟩ := by unfold cur5; rw [if_pos (by omega)]
theorem cur5_miss (x : UInt8) (j : Nat) (h : ¬ x.toNat = 65 + j) : cur5 x (j + 1) = cur5 x j := by
  unfold cur5
  by_cases h1 : 65 ≤ x.toNat ∧ x.toNat < 65 + j
  · rw [if_pos h1, if_pos (by omega)]
  · rw [if_neg h1, if_neg (by omega)]
theorem cur5_size (x : UInt8) (j : Nat) : (cur5 x j).size = 1 := by unfold cur5; split <;> rfl

def great5 : ByteArray := ⟨#[65, 66, 67, 68, 69, 70, 71, 72, 73, 74, 75, 76, 77, 78, 79, 80, 81, 82, 83, 84, 85, 86, 87, 88, 89, 90]⟩
def small5 : ByteArray := ⟨#[97, 98, 99, 100, 101, 102, 103, 104, 105, 106, 107, 108, 109, 110, 111, 112, 113, 114, 115, 116, 117, 118, 119, 120, 121, 122]⟩
theorem great5_size : great5.size = 26 := rfl
theorem great5_at : ∀ j, j < 26 → ∀ (h : j < great5.size), ((great5[j]'h).toNat : Int) = 65 + (j : Int) := by
  have h : ∀ j, j < 26 → ∀ (h : j < great5.size), (great5[j]'h).toNat = 65 + j := by decide +kernel
  intro j hj h2
  rw [h j hj h2]; omega
theorem small5_at (x : UInt8) (j : Nat) (hj : j < 26) (h : x.toNat = 65 + j) : small5.extract j (j + 1) = ⟨#[x + 32]⟩ := by
  have h1 : ∀ j, j < 26 → small5.extract j (j + 1) = ⟨#[UInt8.ofNat (65 + j) + 32]⟩ := by decide +kernel
  have hx : x = UInt8.ofNat (65 + j) := by rw [← h, UInt8.ofNat_toNat]
  rw [h1 j hj, hx]
theorem one_at (s : ByteArray) (i : Nat) (h : i < s.size) : s.extract i (i + 1) = ⟨#[s[i]]⟩ := by
  apply ByteArray.ext
  apply Array.ext'
  rw [ByteArray.data_extract]
  have : i < s.data.size := h
  apply List.ext_getElem
  · simp; omega
  · intro n h1 h2
    simp at h2
    subst h2
    simp
    rfl

theorem cut_at (s : ByteArray) (i : Nat) (y : ByteArray) (h : i < s.size) (e : s.extract i (i + 1) = y) (W : World) :
    (Instr.slice 9 (.string s) (some (.int .i64 i)) (some (.int .i64 ((i : Int) + 1))) none).run Tryz.prog W = .ok (.string y) W := by
  have h1 : ((i : Int) + 1) = ((i + 1 : Nat) : Int) := by omega
  rw [h1, run_slice_string W 9 s .i64 .i64 (i : Int) ((i + 1 : Nat) : Int) Tryz.underlying9 (by omega) (by omega) (by omega)]
  rw [← e]
  simp

set_option maxRecDepth 100000 in
theorem rfold_calls (s : ByteArray) (w : World) (hs : s.size ≤ 1000) :
    Calls Tryz.prog 212 #[.string s] w fun e w' => e = .returned (.string ⟨(fold5 s.data.toList).toArray⟩) ∧ ∃ q, w' = w.drewN q := by
  obtain ⟨r, hr⟩ : ∃ r, r = (⟨(fold5 s.data.toList).toArray⟩ : ByteArray) := ⟨_, rfl⟩
  rw [← hr]
  have HR := Lib.hid hr
  clear hr
  generalize hn : s.size = n at *
  have HN := Lib.hid hn
  clear hn
  have hgs := great5_size
  have HGA := Lib.hid great5_at
  go_enter Tryz.func212, Tryz.ntmps212
  go_wp2
  generalize hgr : (⟨#[65, 66, 67, 68, 69, 70, 71, 72, 73, 74, 75, 76, 77, 78, 79, 80, 81, 82, 83, 84, 85, 86, 87, 88, 89, 90]⟩ : ByteArray) = gr
  have hgr2 : great5 = gr := hgr
  rw [hgr2] at hgs HGA
  clear hgr hgr2
  go_loopg [4, 5, 6, 7] n (fun gg s4 s5 _ _ wr => ∃ i q : Nat, i ≤ n ∧ n - i ≤ gg ∧ s4 = .string ⟨(fold5 (s.data.toList.take i)).toArray⟩ ∧ s5 = .int .i64 i ∧ wr = w.drewN q)
  case atStart => exact ⟨0, 0, Nat.zero_le _, by omega, rfl, rfl, rfl⟩
  case round =>
    obtain ⟨i, q, hi, hg, rfl, rfl, rfl⟩ := hrel
    have hsz := HN.out
    by_cases hlt : i < n
    · have hltz : (i : Int) < (n : Int) := by omega
      have his : i < s.size := by omega
      obtain ⟨o, ho⟩ : ∃ o, o = (⟨(fold5 (s.data.toList.take i)).toArray⟩ : ByteArray) := ⟨_, rfl⟩
      rw [← ho]
      have HO := Lib.hid ho
      have hos : o.size = i := by
        rw [ho]
        show (fold5 (s.data.toList.take i)).toArray.size = i
        rw [List.size_toArray, fold5, List.length_map, List.length_take, size_list]; omega
      clear ho
      have hx : ∀ (h : i < s.size), ((s[i]'h).toNat : Int) = bt5 s i := fun h => bt5_eq s i h
      have hex := one_at s i his
      rw [← cur5_zero] at hex
      obtain ⟨x, hxx⟩ : ∃ x, x = s[i] := ⟨_, rfl⟩
      rw [← hxx] at hex
      have hxn : bt5 s i = (x.toNat : Int) := by rw [hxx]; exact (hx his).symm
      have HX := Lib.hid hxx
      rw [hxn] at hx
      clear hxx hxn
      have hsl := cut_at s i _ his hex
      go_wp2
      go_loopg [6, 7, 19] 26 (fun gg s6 _ s19 wr => ∃ j q : Nat, j ≤ 26 ∧ 26 - j ≤ gg ∧ s6 = .string (cur5 x j) ∧ s19 = .int .i64 j ∧ wr = w.drewN q)
      case atStart => exact ⟨0, q, Nat.zero_le _, by omega, rfl, rfl, rfl⟩
      case round =>
        obtain ⟨j, q, hj, hg2, rfl, rfl, rfl⟩ := hrel
        by_cases hlj : j < 26
        · have hljz : (j : Int) < 26 := by omega
          have hjs : j < gr.size := by omega
          have hgx := HGA.out j hlj
          by_cases hq : x.toNat = 65 + j
          · have hq' : (x.toNat : Int) = 65 + (j : Int) := by omega
            have hsm := cut_at small5 j _ hlj (small5_at x j hlj hq)
            rw [← cur5_hit x j hq] at hsm
            have hsm2 : ∀ W, (Instr.slice 9 (.string ⟨#[97, 98, 99, 100, 101, 102, 103, 104, 105, 106, 107, 108, 109, 110, 111, 112, 113, 114, 115, 116, 117, 118, 119, 120, 121, 122]⟩) (some (.int .i64 j)) (some (.int .i64 ((j : Int) + 1))) none).run Tryz.prog W = .ok (.string (cur5 x (j + 1))) W := hsm
            clear hsm
            go_wp2_with fail
            go_quiet (fail)
            go_wp2
            go_roundg (26 - (j + 1))
            case measure => omega
            case rel => exact ⟨j + 1, _, by omega, by omega, rfl, by go_num, rfl⟩
          · have hq' : ¬ (x.toNat : Int) = 65 + (j : Int) := by omega
            have hcu := cur5_miss x j hq
            generalize cur5 x j = c at *
            go_wp2_with fail
            go_quiet (fail)
            go_wp2
            go_roundg (26 - (j + 1))
            case measure => omega
            case rel => exact ⟨j + 1, _, by omega, by omega, by rw [hcu], by go_num, rfl⟩
        · have hljz : ¬ (j : Int) < 26 := by omega
          obtain rfl : j = 26 := by omega
          obtain ⟨o2, ho2⟩ : ∃ o2, o2 = (⟨(fold5 (s.data.toList.take (i + 1))).toArray⟩ : ByteArray) := ⟨_, rfl⟩
          have hcs := cur5_size x 26
          have hadd : ∀ W, (Op.stringOp .add o (cur5 x 26)).run Tryz.prog W = .ok (.string o2) W := fun W => by
            rw [run_string_add_sum W _ _ (by omega)]
            congr 2
            rw [ho2, HO.out, cur5_end]
            apply ByteArray.ext
            have hls : i < s.data.toList.length := by rw [size_list]; exact his
            rw [List.take_succ_eq_append_getElem hls]
            have hxe : s.data.toList[i] = x := by rw [HX.out]; rfl
            simp [fold5, hxe]
          have HO2 := Lib.hid ho2
          clear ho2
          generalize cur5 x 26 = c at *
          go_wp2
          go_roundg (n - (i + 1))
          case measure => omega
          case rel => exact ⟨i + 1, _, by omega, by omega, by rw [HO2.out], by go_num, rfl⟩
    · have hltz : ¬ (i : Int) < (n : Int) := by omega
      obtain rfl : i = n := by omega
      have he : (⟨(fold5 (s.data.toList.take i)).toArray⟩ : ByteArray) = r := by
        rw [HR.out, List.take_of_length_le (by rw [size_list]; omega)]
      rw [he]
      go_wp2
      go_ret
      exact ⟨rfl, q, rfl⟩
end Go.Proofs.YtclnkboejbnfnaaGreatDoor

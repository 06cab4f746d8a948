/-
  What the document's own functions tell of numbers, truths, texts and rows: the bytes that the Writer writes; nothing that was there turns.
  Conditions: sizes as each theorem says.
-/
import Derived.Test.YtadecmjojnhlnaaLives
import Derived.Test.YtadecmjojnhlnaaPlain
import Derived.Laws.Concat
namespace Go.Proofs.Ytadecmjojnhlnaa
open Go.RowKit

/-- A text by its bytes. -/
def str (l : List UInt8) : Value := .string ⟨l.toArray⟩
theorem str_of (s : ByteArray) : Value.string s = str s.data.toList := by
  obtain ⟨⟨l⟩⟩ := s
  rfl
theorem add_str {P : Program} (W : World) (x y : List UInt8) (h : x.length + y.length ≤ 1099511627776) : (Op.stringOp .add ⟨x.toArray⟩ ⟨y.toArray⟩).run P W = .ok (.string ⟨(x ++ y).toArray⟩) W := by
  rw [run_string_add_sum W _ _ (by simp [ByteArray.size]; omega), ByteArray.mk_append_mk]

/-- A text is told, and nothing that was there has turned. -/
def Says (l : List UInt8) (w : World) (e : Ending) (w' : World) : Prop := e = .returned (.string ⟨l.toArray⟩) ∧ Turns (fun _ => False) w w'

theorem rd_one (w : World) (b : UInt8) : Rd (w.alloc (.cells #[.int .u8 b.toNat] 5)) (.slice (some ⟨w.heap.size, 0, none⟩) 1 1) [b] :=
  ⟨_, 1, rfl, fun _ => ⟨_, rfl, by simp, cell_one_new _ _ _⟩⟩

set_option maxRecDepth 100000 in
set_option maxHeartbeats 1000000 in
theorem num_calls (x size : Nat) (w : World) (hx : x < 18446744073709551616) (hsize : size ≤ 8) :
    Calls Try.prog 44 #[.int .u64 x, .int .i64 size] w (Says (le x size) w) := by
  have HX := Lib.hid hx
  clear hx
  go_enter Try.func44, Try.ntmps44
  go_wp2
  go_loopw [0, 5, 7] (fun y out i wr => ∃ k : Nat, k ≤ size ∧ i = .int .i64 k ∧ y = .int .u64 ((x / 256 ^ k : Nat) : Int) ∧ out = str (le x k) ∧ Turns (fun _ => False) w wr) (fun _ _ i _ => size - (intOf i).toNat)
  case atStart => exact ⟨0, Nat.zero_le _, rfl, by simp, rfl, Turns.refl _ _⟩
  case round =>
    obtain ⟨k, hk, rfl, rfl, rfl, ht⟩ := hrel
    have HT := Lib.hid ht
    clear ht
    by_cases hlt : k < size
    · obtain ⟨q, hq⟩ : ∃ q, q = x / 256 ^ k := ⟨_, rfl⟩
      have hql : q < 18446744073709551616 := by rw [hq]; exact Nat.lt_of_le_of_lt (Nat.div_le_self _ _) HX.out
      have hqn : x / 256 ^ (k + 1) = q / 256 := by rw [hq, Nat.div_div_eq_div_mul, Nat.pow_succ]
      have hcv : (q : Int) % 256 = ((UInt8.ofNat q).toNat : Int) := by simp
      obtain ⟨b, hb⟩ : ∃ b, b = UInt8.ofNat q := ⟨_, rfl⟩
      have hln : le x (k + 1) = le x k ++ [b] := by rw [le, hb, hq]
      rw [← hb] at hcv
      rw [← hq]
      have hcs := (rd_one wr b).string (P := Try.prog) (src := 51) (dst := 9) Try.underlying51 Try.underlying5 Try.underlying9
      have hll := le_length x k
      have hadd := fun W => add_str (P := Try.prog) W (le x k) [b] (by simp [hll]; omega)
      have hdv : IntKind.u64.wrap ((q : Int) / 256) = ((q / 256 : Nat) : Int) := by rw [IntKind.wrap_u64]; omega
      have HQN := Lib.hid hqn
      have HLN := Lib.hid hln
      have HQL := Lib.hid hql
      clear hqn hln hql hq hb hll
      unfold str
      go_wp2
      go_roundw
      case rel => exact ⟨k + 1, by omega, by go_num, by rw [HQN.out]; go_num, by rw [HLN.out], HT.out.alloc _⟩
      case measure => simp [intOf]; omega
    · obtain rfl : k = size := by omega
      go_wp2
      go_ret
      exact ⟨rfl, HT.out⟩
theorem num_at (xi si : Int) (x size : Nat) (w : World) (ex : xi = x) (es : si = size) (hx : x < 18446744073709551616) (hsize : size ≤ 8) :
    Calls Try.prog 44 #[.int .u64 xi, .int .i64 si] w (Says (le x size) w) := by
  subst ex
  subst es
  exact num_calls x size w hx hsize
set_option maxRecDepth 100000 in
theorem reftext_calls (s : ByteArray) (w : World) (hs : s.size ≤ 65535) : Calls Try.prog 45 #[.string s] w (Says (textB s) w) := by
  have hbl := bytes_length s
  have hadd := fun W => add_str (P := Try.prog) W (le s.size 2) s.data.toList (by rw [le_length, hbl]; omega)
  rw [show (ByteArray.mk s.data.toList.toArray) = s by obtain ⟨⟨l⟩⟩ := s; rfl] at hadd
  clear hbl
  go_enter Try.func45, Try.ntmps45
  go_wp2_with fail
  with_reducible refine (num_at _ _ s.size 2 w (by rfl) (by simp) (by omega) (by omega)).mono ?_
  rintro e w1 ⟨rfl, ht⟩
  have HT := Lib.hid ht
  clear ht
  go_wp2
  go_ret
  exact ⟨rfl, HT.out⟩
set_option maxRecDepth 100000 in
set_option maxHeartbeats 1000000 in
theorem refrow_calls (A : Option Addr) (c : Nat) (ss : List ByteArray) (w : World) (hr : RdS w A ss) (hN : ss.length ≤ 65535) (hs : ∀ s ∈ ss, s.size ≤ 65535) :
    Calls Try.prog 56 #[.slice A ss.length c] w (Says (rowB ss) w) := by
  have HS := Lib.hid hs
  have hAt : ∀ k, k < ss.length → ∀ w', Turns (fun _ => False) w w' → ∃ (b off : Nat) (t : ByteArray), A = some ⟨b, off, none⟩ ∧ w'.cell? ⟨b, off + k, none⟩ = some (.string t) ∧ t.size ≤ 65535 ∧ textsB (ss.take (k + 1)) = textsB (ss.take k) ++ textB t := by
    intro k hk w' ht
    obtain ⟨b, off, rfl, hb, hcell⟩ := hr.turns ht (fun _ _ _ f => f) (by intro e; subst e; simp at hk)
    exact ⟨b, off, ss[k], rfl, hcell k hk, hs _ (List.getElem_mem hk), textsB_snoc ss k hk⟩
  have HAt := Lib.hid hAt
  have HF : Hid (le ss.length 2 ++ textsB (ss.take ss.length) = rowB ss) := by rw [List.take_length]; exact rfl
  clear hr hs hAt
  generalize ss.length = n at *
  go_enter Try.func56, Try.ntmps56
  go_wp2_with fail
  with_reducible refine (num_at _ _ n 2 w (by rfl) (by simp) (by omega) (by omega)).mono ?_
  rintro e w1 ⟨rfl, ht⟩
  have HT := Lib.hid ht
  clear ht
  go_wp2
  go_loopw [3, 12] (fun out i wr => ∃ k : Nat, k ≤ n ∧ i = .int .i64 k ∧ out = str (le n 2 ++ textsB (ss.take k)) ∧ Turns (fun _ => False) w wr) (fun _ i _ => n - (intOf i).toNat)
  case atStart => exact ⟨0, Nat.zero_le _, rfl, by simp [textsB, str], HT.out⟩
  case round =>
    obtain ⟨k, hk, rfl, rfl, htr⟩ := hrel
    by_cases hlt : k < n
    · obtain ⟨b, off, t, rfl, hcell, hts, hsn⟩ := HAt.out k hlt wr htr
      have hlen : (textsB (ss.take k)).length ≤ 4294967295 := textsB_take_length ss k HS.out (by omega)
      have htl := textB_length t
      have hadd := fun W => add_str (P := Try.prog) W (le n 2 ++ textsB (ss.take k)) (textB t) (by simp only [List.length_append, le_length, htl]; omega)
      have HSN : Hid (le n 2 ++ textsB (ss.take k) ++ textB t = le n 2 ++ textsB (ss.take (k + 1))) := by rw [hsn, List.append_assoc]; exact rfl
      have HTR := Lib.hid htr
      clear hsn hlen htl htr HAt HF
      unfold str
      rw [HSN.out] at hadd
      generalize textsB (ss.take k) = tk at *
      go_wp2_with fail
      with_reducible refine (reftext_calls t wr hts).mono ?_
      rintro e w2 ⟨rfl, ht2⟩
      have HT2 := Lib.hid (HTR.out.next ht2 (fun _ _ f => f))
      clear ht2
      go_wp2
      go_roundw
      case rel => exact ⟨k + 1, by omega, by go_num, rfl, HT2.out⟩
      case measure => simp [intOf]; omega
    · obtain rfl : k = n := by omega
      rw [HF.out]
      have HTR := Lib.hid htr
      clear htr HAt HF
      go_wp2
      go_ret
      exact ⟨rfl, HTR.out⟩
end Go.Proofs.Ytadecmjojnhlnaa

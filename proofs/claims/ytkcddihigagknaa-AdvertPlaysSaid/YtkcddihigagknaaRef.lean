/-
  What the document's own functions tell of numbers, truths, texts and rows: the bytes that the Writer writes; nothing that was there turns.
  Conditions: sizes as each theorem says.
-/
import Derived.Test.YtkcddihigagknaaLives
import Derived.Test.YtkcddihigagknaaPlain
import Derived.Laws.Concat
namespace Go.Proofs.Ytkcddihigagknaa
open Go.RowKit

/-- A text by its bytes. -/
def str (l : List UInt8) : Value := .string ⟨l.toArray⟩
theorem str_of (s : ByteArray) : Value.string s = str s.data.toList := by
  obtain ⟨⟨l⟩⟩ := s
  rfl
theorem add_str {P : Program} (W : World) (x y : List UInt8) (h : x.length + y.length ≤ 1099511627776) : (Op.stringOp .add ⟨x.toArray⟩ ⟨y.toArray⟩).run P W = .ok (.string ⟨(x ++ y).toArray⟩) W := by
  rw [run_string_add_sum W _ _ (by simp [ByteArray.size]; omega), ByteArray.mk_append_mk]

/-- A text is told, and nothing that was there has turned. -/
def Says (l : List UInt8) (w : World) (e : Ending) (w' : World) : Prop := e = .returned (.string ⟨l.toArray⟩) ∧ Turns (fun _ => False) w w'

theorem rd_one (w : World) (b : UInt8) : Rd (w.alloc (.cells #[.int .u8 b.toNat] 5)) (.slice (some ⟨w.heap.size, 0, none⟩) 1 1) [b] :=
  ⟨_, 1, rfl, fun _ => ⟨_, rfl, by simp, cell_one_new _ _ _⟩⟩

set_option maxRecDepth 100000 in
set_option maxHeartbeats 1000000 in
theorem num_calls (x size : Nat) (w : World) (hx : x < 18446744073709551616) (hsize : size ≤ 8) :
    Calls Try.prog 36 #[.int .u64 x, .int .i64 size] w (Says (le x size) w) := by
  have HX := Lib.hid hx
  clear hx
  go_enter Try.func36, Try.ntmps36
  go_wp2
  go_loopw [0, 5, 7] (fun y out i wr => ∃ k : Nat, k ≤ size ∧ i = .int .i64 k ∧ y = .int .u64 ((x / 256 ^ k : Nat) : Int) ∧ out = str (le x k) ∧ Turns (fun _ => False) w wr) (fun _ _ i _ => size - (intOf i).toNat)
  case atStart => exact ⟨0, Nat.zero_le _, rfl, by simp, rfl, Turns.refl _ _⟩
  case round =>
    obtain ⟨k, hk, rfl, rfl, rfl, ht⟩ := hrel
    have HT := Lib.hid ht
    clear ht
    by_cases hlt : k < size
    · obtain ⟨q, hq⟩ : ∃ q, q = x / 256 ^ k := ⟨_, rfl⟩
      have hql : q < 18446744073709551616 := by rw [hq]; exact Nat.lt_of_le_of_lt (Nat.div_le_self _ _) HX.out
      have hqn : x / 256 ^ (k + 1) = q / 256 := by rw [hq, Nat.div_div_eq_div_mul, Nat.pow_succ]
      have hcv : (q : Int) % 256 = ((UInt8.ofNat q).toNat : Int) := by simp
      obtain ⟨b, hb⟩ : ∃ b, b = UInt8.ofNat q := ⟨_, rfl⟩
      have hln : le x (k + 1) = le x k ++ [b] := by rw [le, hb, hq]
      rw [← hb] at hcv
      rw [← hq]
      have hcs := (rd_one wr b).string (P := Try.prog) (src := 40) (dst := 9) Try.underlying40 Try.underlying5 Try.underlying9
      have hll := le_length x k
      have hadd := fun W => add_str (P := Try.prog) W (le x k) [b] (by simp [hll]; omega)
      have hdv : IntKind.u64.wrap ((q : Int) / 256) = ((q / 256 : Nat) : Int) := by rw [IntKind.wrap_u64]; omega
      have HQN := Lib.hid hqn
      have HLN := Lib.hid hln
      have HQL := Lib.hid hql
      clear hqn hln hql hq hb hll
      unfold str
      go_wp2
      go_roundw
      case rel => exact ⟨k + 1, by omega, by go_num, by rw [HQN.out]; go_num, by rw [HLN.out], HT.out.alloc _⟩
      case measure => simp [intOf]; omega
    · obtain rfl : k = size := by omega
      go_wp2
      go_ret
      exact ⟨rfl, HT.out⟩
theorem num_at (xi si : Int) (x size : Nat) (w : World) (ex : xi = x) (es : si = size) (hx : x < 18446744073709551616) (hsize : size ≤ 8) :
    Calls Try.prog 36 #[.int .u64 xi, .int .i64 si] w (Says (le x size) w) := by
  subst ex
  subst es
  exact num_calls x size w hx hsize
end Go.Proofs.Ytkcddihigagknaa

/-
  What belongs to an operation's kind: sound and own.
  Conditions: the table reads as it is laid.
-/
import Derived.Test.YtkcddihigagknaaOpTab
namespace Go.Proofs.Ytkcddihigagknaa
open Go.RowKit

/-- An operation. -/
structure O14 where
  kd : UInt8
  a : ByteArray
  b : ByteArray
  nd : UInt8
  rl : UInt8
def O14.cells (o : O14) : Array Value := #[.int .u8 o.kd.toNat, .string o.a, .string o.b, .int .u8 o.nd.toNat, .int .u8 o.rl.toNat]
def O14.v (o : O14) : Value := .agg o.cells
def zero14 (k : UInt8) : O14 := ⟨k, ⟨#[]⟩, ⟨#[]⟩, 0, 0⟩
section
variable {w w' : World} {B : Nat} {o : O14}
end

/-- May the part of that sign be? -/
def snd14 (nd rl : Nat) (c : UInt8) : Bool := if c = 110 then decide (nd < 7) else if c = 114 then decide (1 ≤ rl) && decide (rl ≤ 3) else true
/-- One part more. -/
def put14 (o acc : O14) (c : UInt8) : O14 := if c = 97 then { acc with a := o.a } else if c = 98 then { acc with b := o.b } else if c = 110 then { acc with nd := o.nd } else { acc with rl := o.rl }
/-- What belongs to its kind. -/
def own14 (o : O14) : O14 := (sig14 o.kd.toNat).foldl (put14 o) (zero14 o.kd)
theorem next_more14 {w : World} {it k : Nat} {l : List UInt8} (h : w.heap[it]? = some (.stringIter (tx14 l) k)) (hk : k < l.length) (ha : l[k].toNat < 128) (ty : TypeId) :
    (Instr.next (.pointer (some ⟨it, 0, none⟩)) true ty).run Try.prog w = .ok (.tuple #[.bool true, .int .i64 k, .int .i32 l[k].toNat]) (w.iterAt it (tx14 l) (k + 1)) := by
  have hs : k < (tx14 l).size := by rw [tx14_size]; exact hk
  have e := tx14_at l k hs
  have := Lib.run_next_ascii_at (P := Try.prog) w it (tx14 l) k ty h hs (by rw [e]; exact ha)
  rw [e] at this
  exact this
theorem next_end14 {w : World} {it : Nat} {l : List UInt8} (h : w.heap[it]? = some (.stringIter (tx14 l) l.length)) (ty : TypeId) :
    (Instr.next (.pointer (some ⟨it, 0, none⟩)) true ty).run Try.prog w = .ok (.tuple #[.bool false]) w :=
  Lib.run_next_end_at w it (tx14 l) l.length ty h (by rw [tx14_size]; exact Nat.lt_irrefl _)

end Go.Proofs.Ytkcddihigagknaa

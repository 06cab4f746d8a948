/-
  What the document's own reader does, function by function: the same as the plain model of the Reader, where an error leaves nothing.
  Conditions: at most 2^40 bytes.
-/
import Derived.Test.YtadecmjojnhlnaaReadC
import Derived.Test.YtadecmjojnhlnaaRef
import Derived.Test.YtadecmjojnhlnaaRefV
import Derived.Deep.RegionHeld3
import Derived.Lib.IndexBytes
namespace Go.Proofs.Ytadecmjojnhlnaa
open Go.RowKit

/-- With an error nothing is left. -/
def Ok (st : St) : Prop := st.e ≠ 0 → st.bs = []
/-- The document's reader, as a value. -/
def refV (st : St) : Value := .agg #[.string ⟨st.bs.toArray⟩, .int .i64 st.e]

/-- One reader is told. -/
def Ref1 (st : St) (w : World) (e : Ending) (w' : World) : Prop := e = .returned (refV st) ∧ Turns (fun _ => False) w w'
/-- A reader, bytes and a truth are told. -/
def Ref3 (st : St) (l : List UInt8) (w : World) (e : Ending) (w' : World) : Prop := ∃ b, e = .returned (.tuple #[refV st, .string ⟨l.toArray⟩, .bool b]) ∧ Turns (fun _ => False) w w'
theorem extract_drop (s : ByteArray) (n : Nat) : s.extract n s.size = ⟨(s.data.toList.drop n).toArray⟩ := by
  apply ByteArray.ext
  apply Array.toList_inj.1
  rw [Lib.extract_data]
  rw [List.take_of_length_le (by rw [List.length_drop, bytes_length]; omega)]
theorem extract_take (s : ByteArray) (n : Nat) : s.extract 0 n = ⟨(s.data.toList.take n).toArray⟩ := by
  apply ByteArray.ext
  apply Array.toList_inj.1
  rw [Lib.extract_data]
  simp
theorem Turns.set2 {a w : World} (h : Turns (fun _ => False) a w) {g : Nat} (hg : a.heap.size ≤ g) (x y : Value) : Turns (fun _ => False) a ((w.setCell ⟨g, 0, none⟩ x).setCell ⟨g, 1, none⟩ y) :=
  (h.setCell (p := ⟨g, 0, none⟩) (fun hlt => by simp at hlt; omega) x).setCell (p := ⟨g, 1, none⟩) (fun hlt => by simp at hlt; omega) y
/-- A reader and a number are told. -/
def Ref2 (st : St) (x : Nat) (w : World) (e : Ending) (w' : World) : Prop := e = .returned (.tuple #[refV st, .int .u64 x]) ∧ Turns (fun _ => False) w w'
end Go.Proofs.Ytadecmjojnhlnaa

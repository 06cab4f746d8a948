/-
  What the document's own reader does with truths, texts and rows: the same as the plain model of the Reader, where an error leaves nothing.
  Conditions: at most 2^40 bytes.
-/
import Derived.Test.YtadecmjojnhlnaaRefR
namespace Go.Proofs.Ytadecmjojnhlnaa
open Go.RowKit

theorem Ok.fail {st : St} (h : Ok st) (e : Int) : Ok (failS st e) := by
  unfold failS
  split
  · exact h
  · exact fun _ => rfl
theorem Ok.take {st : St} (h : Ok st) (n : Nat) : Ok (takeS st n).1 := by
  unfold takeS
  split
  · exact h.fail 2
  · intro he
    have := h he
    show st.bs.drop n = []
    rw [this]; simp
theorem Ok.num {st : St} (h : Ok st) (n : Nat) : Ok (numS st n).1 := h.take n
theorem Ok.len {st : St} (h : Ok st) (most : Int) : Ok (lengthS st most).1 := by
  unfold lengthS
  split
  · exact (h.num 2).fail 3
  · exact h.num 2
theorem Ok.text {st : St} (h : Ok st) (most : Int) : Ok (textS st most).1 := (h.len most).take _
theorem Ok.truth {st : St} (h : Ok st) : Ok (truthS st).1 := by
  unfold truthS
  split
  · exact (h.num 1).fail 4
  · exact h.num 1
theorem Ok.rowGo {long : Int} : ∀ (k : Nat) (st : St) (acc : List ByteArray), Ok st → Ok (rowGo long k st acc).1
  | 0, _, _, h => h
  | k + 1, st, acc, h => by
    unfold Go.Proofs.Ytadecmjojnhlnaa.rowGo
    split
    · exact h.text long
    · exact Ok.rowGo k _ _ (h.text long)
theorem Ok.row {st : St} (h : Ok st) (most long : Int) : Ok (rowS st most long).1 := Ok.rowGo _ _ _ (h.len most)
theorem numS_zero {st : St} (h : Ok st) (k : Nat) (he : (numS st k).1.e ≠ 0) : (numS st k).2 = 0 := by
  unfold numS takeS at *
  split
  · rfl
  · rename_i hs
    rw [if_neg hs] at he
    have := h he
    rw [this]
    simp [val]
theorem failS_zero {st : St} (h : st.e = 0) (e : Int) (he : e ≠ 0) : failS st e = ⟨[], e⟩ := by simp [failS, h, he]

/-- A reader and a truth are told. -/
def RefB (st : St) (b : Bool) (w : World) (e : Ending) (w' : World) : Prop := e = .returned (.tuple #[refV st, .bool b]) ∧ Turns (fun _ => False) w w'
/-- A reader and a text are told. -/
def RefT (st : St) (l : List UInt8) (w : World) (e : Ending) (w' : World) : Prop := e = .returned (.tuple #[refV st, .string ⟨l.toArray⟩]) ∧ Turns (fun _ => False) w w'
end Go.Proofs.Ytadecmjojnhlnaa

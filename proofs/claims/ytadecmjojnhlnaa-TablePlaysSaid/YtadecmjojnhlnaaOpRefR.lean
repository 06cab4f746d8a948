/-
  The document's Read of an operation tells what the code's tells.
  Conditions: bytes of at most 1000.
-/
import Derived.Test.YtadecmjojnhlnaaOpMath
import Derived.Test.YtadecmjojnhlnaaRefT
namespace Go.Proofs.Ytadecmjojnhlnaa
open Go.RowKit

section
variable {w W W' : World} {X Q : Nat} {b b' : ByteArray} {e e' : Int} {o : O14}
end
theorem endS_ok14 {st : St} (h : Ok st) : (st.e = 0 ∧ st.bs = [] ∧ endS st = 0) ∨ (st.e = 0 ∧ st.bs ≠ [] ∧ endS st = 3) ∨ (st.e ≠ 0 ∧ endS st = st.e) := by
  unfold endS
  by_cases he : st.e = 0
  · by_cases hb : st.bs = []
    · exact .inl ⟨he, hb, by rw [hb]; simp [he]⟩
    · exact .inr (.inl ⟨he, hb, by rw [if_pos (List.length_pos_iff.2 hb)]⟩)
  · exact .inr (.inr ⟨he, by rw [h he]; simp⟩)

/-- What is told at the end. -/
def fin14 (b : ByteArray) (e : Int) (oo : O14) : O14 × Int := if e = 0 then (if b = ⟨#[]⟩ then (oo, 0) else (zero14 0, 3)) else (zero14 0, e)

end Go.Proofs.Ytadecmjojnhlnaa

/-
  The document's Read of any bytes tells what the code's tells.
  Conditions: at most 1000 bytes.
-/
import Derived.Test.YtadecmjojnhlnaaOpRefR
namespace Go.Proofs.Ytadecmjojnhlnaa
open Go.RowKit

theorem tx_nil14 {l : List UInt8} (h : l ≠ []) : tx14 l ≠ ⟨#[]⟩ := fun e => h (by
  have := congrArg (fun s : ByteArray => s.data.toList) e
  simpa [tx14] using this)
theorem fin_is14 {st : St} (h : Ok st) (oo : O14) : (fin14 (tx14 st.bs) st.e oo).1 = (if endS st = 0 then oo else zero14 0) ∧ (fin14 (tx14 st.bs) st.e oo).2 = endS st := by
  unfold fin14
  rcases endS_ok14 h with ⟨h1, h2, h3⟩ | ⟨h1, h2, h3⟩ | ⟨h1, h3⟩
  · have e : tx14 [] = ⟨#[]⟩ := rfl
    rw [h3, if_pos h1, h2, e, if_pos rfl, if_pos rfl]; exact ⟨rfl, rfl⟩
  · rw [h3, if_pos h1, if_neg (tx_nil14 h2), if_neg (by decide)]; exact ⟨rfl, rfl⟩
  · rw [h3, if_neg h1, if_neg h1]; exact ⟨rfl, rfl⟩
theorem ok0_14 (r : List UInt8) : Ok ⟨r, 0⟩ := fun h => absurd rfl h
end Go.Proofs.Ytadecmjojnhlnaa

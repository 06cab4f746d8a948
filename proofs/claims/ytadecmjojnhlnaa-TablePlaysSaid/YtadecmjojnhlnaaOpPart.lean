/-
  One part of an operation is read: readPart; a Reader beside an operation's block and an iterator.
  Conditions: at most 2^40 bytes.
-/
import Derived.Test.YtadecmjojnhlnaaOpRefC
import Derived.Test.YtadecmjojnhlnaaReadC
namespace Go.Proofs.Ytadecmjojnhlnaa
open Go.RowKit

theorem Rdr.shift14 {S : Nat → Prop} {w w' : World} {B : Nat} {st : St} (h : Rdr w B st) (ht : Turns S w w') (hB : ¬ S B) (hS : ∀ g, ByteBlk w g → ¬ S g) : Rdr w' B st := by
  obtain ⟨v, h1, h2⟩ := h
  refine ⟨v, (ht.block B (Array.getElem?_eq_some_iff.1 h1).1 hB).trans h1, ?_⟩
  rcases h2 with h | ⟨g, off, c, rfl, h1, h2, h3, h4, hbk, h5⟩
  · exact .inl h
  · have hn := hS g hbk
    exact .inr ⟨g, off, c, rfl, h1, h2, Nat.lt_of_lt_of_le h3 ht.size, h4, hbk.keep ht hn, fun j hj => (ht.cell (p := ⟨g, off + j, none⟩) h3 hn).trans (h5 j hj)⟩
theorem turns_iter14 (w : World) (it : Nat) (s : ByteArray) (p : Nat) : Turns (fun i => i = it) w (w.iterAt it s p) :=
  ⟨rfl, rfl, rfl, by rw [Lib.iterAt_size]; exact Nat.le_refl _, fun k _ hn => Lib.iterAt_other w it k s p hn⟩
theorem Rdr.iter14 {w : World} {B it : Nat} {st : St} {s : ByteArray} {p : Nat} (h : Rdr w B st) (hi : w.heap[it]? = some (Obj.stringIter s p)) (q : Nat) : Rdr (w.iterAt it s q) B st := by
  refine h.shift14 (turns_iter14 w it s q) ?_ ?_
  · rintro rfl
    obtain ⟨v, h1, _⟩ := h
    rw [h1] at hi
    cases hi
  · rintro g ⟨cur, fr, hg⟩ rfl
    rw [hg] at hi
    cases hi
theorem Rdr.no_iter14 {w : World} {B k : Nat} {st : St} {s : ByteArray} {p : Nat} (h : Rdr w B st) (hi : w.heap[k]? = some (Obj.stringIter s p)) : k ≠ B := by
  rintro rfl
  obtain ⟨v, h1, _⟩ := h
  rw [h1] at hi
  cases hi
/-- Where the part may not be, the Reader fails. -/
def stp14 (st : St) (c : UInt8) : St := if c = 97 ∨ c = 98 then (textS st 65535).1 else if snd14 (numS st 1).2 (numS st 1).2 c = true then (numS st 1).1 else failS (numS st 1).1 4
/-- The operation behind one part. -/
def opp14 (st : St) (o : O14) (c : UInt8) : O14 := if c = 97 then { o with a := tx14 (textS st 65535).2 } else if c = 98 then { o with b := tx14 (textS st 65535).2 } else if c = 110 then { o with nd := UInt8.ofNat (numS st 1).2 } else { o with rl := UInt8.ofNat (numS st 1).2 }
theorem stp14_left (st : St) (c : UInt8) : (stp14 st c).bs.length ≤ st.bs.length := by
  have h1 := textS_left st 65535
  have h2 := numS_left st 1
  have h3 := failS_length (numS st 1).1 4
  unfold stp14
  split
  · exact h1
  · split
    · exact h2
    · exact Nat.le_trans h3 h2
theorem num_u814 (st : St) : (UInt8.ofNat (numS st 1).2).toNat = (numS st 1).2 := by
  have := numS_lt st 1
  simp only [UInt8.toNat_ofNat']
  omega

end Go.Proofs.Ytadecmjojnhlnaa

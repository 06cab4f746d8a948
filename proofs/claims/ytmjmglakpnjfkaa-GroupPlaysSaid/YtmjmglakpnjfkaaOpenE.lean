/-
  What the reading of an argument tells of memory: a slice of acts of the directory's law.
  Conditions: none.
-/
import Derived.Test.YtmjmglakpnjfkaaWords
import Derived.Test.YtmjmglakpnjfkaaProg
import Derived.Test.YtmjmglakpnjfkaaRows
import Derived.ProofKit
import Derived.OpenShut
import Derived.ChangeOld
import Derived.SliceStrings
import Derived.Deep.Slices
namespace Go.Proofs.Ytmjmglakpnjfkaa
open Go.ChangeShapes Go.WideShapes Go.ChangeAt Go.RowKit Go.Deep

/-- An act. -/
structure Act7 where
  kd : Nat
  nm : ByteArray
  hs : ByteArray
def Act7.cells (t : Act7) : List Value := [.int .u8 (t.kd : Int), .string t.nm, .string t.hs]
/-- Memory that reads as acts. -/
def RdA7 (w : World) (A : Option Addr) (l : List Act7) : Prop :=
  l ≠ [] → ∃ b off, A = some ⟨b, off, none⟩ ∧ b < w.heap.size ∧ ∀ i (hi : i < l.length) j u, l[i].cells[j]? = some u → w.cell? ⟨b, off + i * 3 + j, none⟩ = some u
theorem RdA7.later {w w' : World} {A : Option Addr} {l : List Act7} (h : RdA7 w A l) (hb : Below w.heap.size w w') : RdA7 w' A l := fun hl => by
  obtain ⟨b, off, rfl, hlt, hc⟩ := h hl
  exact ⟨b, off, rfl, Nat.lt_of_lt_of_le hlt hb.size, fun i hi j u hu => (hb.cell (p := ⟨b, off + i * 3 + j, none⟩) hlt).trans (hc i hi j u hu)⟩
/-- What is known of a slice of acts that came in. -/
def IsActs7 (w : World) (A : Option Addr) (len : Nat) (l : List Act7) : Prop := len = l.length ∧ l.length ≤ 9223372036854775807 ∧ RdA7 w A l ∧ ∀ t ∈ l, t.kd < 256 ∧ t.nm.size ≤ 9223372036854775807 ∧ t.hs.size ≤ 9223372036854775807

theorem cellsOfU8e : Try.prog.cellsOf 5 = 1 := by kernel_rfl
theorem cellsOfStre : Try.prog.cellsOf 9 = 1 := by kernel_rfl
theorem pick_acte (d : Act7) {φ : Nat → Act7 → Prop} {m : Nat} (h : ∀ i, i < m → ∃ t, φ i t) : ∃ T : Nat → Act7, ∀ i, i < m → φ i (T i) := by
  refine ⟨fun i => if hi : i < m then Classical.choose (h i hi) else d, fun i hi => ?_⟩
  have : (if hi : i < m then Classical.choose (h i hi) else d) = Classical.choose (h i hi) := dif_pos hi
  show φ i (if hi : i < m then Classical.choose (h i hi) else d)
  rw [this]
  exact Classical.choose_spec (h i hi)

section
variable {H : Type} {enc : TypeId × Value → H} {W : World} {base : Nat} {sp : Nat → Bool} {hd : Bool} {fuel : Nat}
end
end Go.Proofs.Ytmjmglakpnjfkaa

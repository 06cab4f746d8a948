/-
  The directory of package elder in memory: a block that holds a map of sums by names; what is there, how many they are, one more, one less.
  Conditions: each theorem's own.
-/
import Derived.Test.YtiodbghokiajjaaDoorElderAsk
import Derived.Test.YtiodbghokiajjaaDoorElderMath
import Derived.Test.YtiodbghokiajjaaDoorWords
import Derived.StringKeys
import Derived.Shelf.SlMaps.Clone
namespace Go.Proofs.YtiodbghokiajjaaDoor
open Go.RowKit Go.Maps

theorem ownsMap_tight {H : Type} {w : World} {P : Program} {k : TypeId} {R : Value → Option (DataW H × List MemPlace)} {b n : Nat} {D : DataW H} (h : w.ownsMap P k R b n D) : w.ownsMap P k R b (Maps.size D) D := by
  obtain ⟨es, clock, hb, F, _, rfl⟩ := h
  have e1 : Maps.size (DataW.map ((es.toList.map (WideElems.rg P k R)).foldr DataW.insert [])) = es.size := by simp [Maps.size, length_sorted]
  exact ⟨es, clock, hb, F, by rw [e1]; exact Nat.le_refl _, rfl⟩

/-- Block b is a map that reads as the row L. -/
def Map7 (w : World) (b : Nat) (L : Row7) : Prop := w.ownsMap Tryd.prog 9 (plainElem Tryd.prog 9) b L.length (datE L)
theorem Map7.of {w : World} {b n : Nat} {L : Row7} (h : w.ownsMap Tryd.prog 9 (plainElem Tryd.prog 9) b n (datE L)) : Map7 w b L := by
  have := ownsMap_tight h
  rwa [datE_size] at this
theorem Map7.kept {w w' : World} {b : Nat} {L : Row7} (h : Map7 w b L) (hb : w'.heap[b]? = w.heap[b]?) : Map7 w' b L := by
  obtain ⟨es, clock, h1, r⟩ := h
  exact ⟨es, clock, hb.trans h1, r⟩

section
variable {w w' : World} {B : Nat} {p : Option Nat} {L : Row7}
end

theorem keyed7 : Keyed Tryd.prog 9 := string_keyed Tryd.underlying9
theorem zero7 (w : World) : (zeroValue 9).run Tryd.prog w = .ok (.string ⟨#[]⟩) w := by kernel_rfl
theorem key7 (s : ByteArray) (h : s.size ≤ maxLen) : keyOf Tryd.prog 9 (.string s) = some (.string s.data.toList) := WideMaps.keyOf_string_mk Tryd.underlying9 h
theorem bytes7_back (s : ByteArray) (l : List UInt8) (h : s.data.toList = l) : s = ⟨l.toArray⟩ := by
  subst h; simp

/-- A text out of bytes. -/
def tx7 (l : List UInt8) : ByteArray := ⟨l.toArray⟩
theorem tx7_list (l : List UInt8) : (tx7 l).data.toList = l := by simp [tx7]
theorem tx7_back (s : ByteArray) : tx7 s.data.toList = s := by simp [tx7]

theorem nilmap7 (w : World) (p : Option Nat) : (binOp .eql 52 (.map p) (.map none)).run Tryd.prog w = .ok (.bool p.isNone) w :=
  run_eql_map_nil_sl w 52 _ _ p Tryd.underlying52

end Go.Proofs.YtiodbghokiajjaaDoor

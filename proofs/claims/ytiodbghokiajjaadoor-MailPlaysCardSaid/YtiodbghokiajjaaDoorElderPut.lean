/-
  One more and one less in the directory's map; askers of who is there.
  Conditions: each theorem's own.
-/
import Derived.Test.YtiodbghokiajjaaDoorElderDir
import Derived.Shelf.SlIter.Collect
namespace Go.Proofs.YtiodbghokiajjaaDoor
open Go.RowKit Go.Maps

theorem mem_put {L : Row7} {k v : List UInt8} {q : List UInt8 × List UInt8} (h : q ∈ putE L k v) : q = (k, v) ∨ q ∈ L := by
  unfold putE at h
  exact (mem_ins.1 h).imp id (fun h => (mem_del.1 h).1)
theorem turned_cells {w w' : World} {B b : Nat} (h : w.mapTurned w' b) (hne : b ≠ B) : w'.heap[B]? = w.heap[B]? := by
  obtain ⟨es, clock, es', clock', _, rfl⟩ := h
  exact ChangeMaps.heap_setBlock_other (by assumption) _ (fun e => hne e.symm)

end Go.Proofs.YtiodbghokiajjaaDoor

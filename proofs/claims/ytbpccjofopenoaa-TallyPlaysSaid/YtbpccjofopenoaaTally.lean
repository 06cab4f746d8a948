/-
  A tally: sixteen counts in one block; what each call tells, and what it leaves there.
  Conditions: the tally is nobody else's (one goroutine).
-/
import Derived.Test.YtbpccjofopenoaaProg
import Derived.Test.YtbpccjofopenoaaWords
import Derived.WalkSpells
import Derived.WalkLawsBesides
import Derived.Lib.Hide
import Derived.KernelRfl
import Derived.Laws.LoneSync
import Derived.Laws.Rows
import Derived.Laws.Tables
import Derived.LaidEqlPtr
import Derived.IntWalk
namespace Go.Proofs.Ytbpccjofopenoaa
open Go.RowKit

/-- Sixteen numbers, as cells. -/
def numA (f : Nat → Int) : Array Value := ((List.range 16).map fun i => Value.int .i64 (f i)).toArray
/-- One of them is another one. -/
def setF (f : Nat → Int) (i : Nat) (x : Int) : Nat → Int := fun j => if j = i then x else f j
theorem numA_size (f : Nat → Int) : (numA f).size = 16 := by simp [numA]
theorem numA_get (f : Nat → Int) (i : Nat) (hi : i < 16) : (numA f)[i]? = some (.int .i64 (f i)) := by simp [numA, hi]
theorem numA_set (f : Nat → Int) (i : Nat) (x : Int) : (numA f).setIfInBounds i (.int .i64 x) = numA (setF f i x) := by
  apply Array.ext
  · simp [numA]
  · intro j h1 h2
    simp only [numA, setF, List.setIfInBounds_toArray, List.getElem_toArray, List.getElem_set, List.getElem_map, List.getElem_range]
    by_cases e : i = j
    · subst e; simp
    · have e' : ¬ j = i := fun h => e h.symm
      simp [e, e']
theorem numA_one (f : Nat → Int) : (numA f).all (·.oneCell') = true := by
  rw [Array.all_eq_true_iff_forall_mem]
  intro v hv
  simp only [numA, List.mem_toArray, List.mem_map] at hv
  obtain ⟨_, _, rfl⟩ := hv
  rfl
theorem numA_congr {f g : Nat → Int} (h : ∀ i, i < 16 → f i = g i) : numA f = numA g := by
  unfold numA
  congr 1
  apply List.map_congr_left
  intro i hi
  rw [h i (List.mem_range.1 hi)]
/-- A block of sixteen numbers. -/
def Num16 (w : World) (B : Nat) (f : Nat → Int) : Prop := ∃ t, w.heap[B]? = some (.cells (numA f) t (0, 0))
section
variable {w w' : World} {B : Nat} {f : Nat → Int}
theorem Num16.cell (h : Num16 w B f) (i : Nat) (hi : i < 16) : w.cell? ⟨B, i, none⟩ = some (.int .i64 (f i)) := by
  obtain ⟨t, h⟩ := h
  exact (cell_of_row w B i _ t (0, 0) h).trans (numA_get f i hi)
theorem Num16.free (h : Num16 w B f) (i : Nat) : w.frozen? ⟨B, i, none⟩ = false := by obtain ⟨t, h⟩ := h; simp [World.frozen?, h]
theorem Num16.lt (h : Num16 w B f) : B < w.heap.size := by obtain ⟨t, h⟩ := h; exact (Array.getElem?_eq_some_iff.1 h).1
theorem Num16.set (h : Num16 w B f) (i : Nat) (x : Int) : Num16 (w.setCell ⟨B, i, none⟩ (.int .i64 x)) B (setF f i x) := by
  obtain ⟨t, h⟩ := h
  refine ⟨t, ?_⟩
  rw [← numA_set]
  simp [World.setCell, Array.getElem?_modify, h]
theorem Num16.setRow (h : Num16 w B f) (g : Nat → Int) : Num16 (w.setRow B (numA g)) B g := by
  obtain ⟨t, h⟩ := h
  exact ⟨t, setRow_heap w B _ _ t _ h⟩
theorem Num16.drew (h : Num16 w B f) : Num16 w.drew B f := h
theorem Num16.turns {S : Nat → Prop} (h : Num16 w B f) (ht : Turns S w w') (hn : ¬ S B) : Num16 w' B f := by
  have hl := h.lt
  obtain ⟨t, h⟩ := h
  exact ⟨t, (ht.block B hl hn).trans h⟩
theorem Num16.still (h : Num16 w B f) (ht : Turns (fun _ => False) w w') : Num16 w' B f := h.turns ht (fun f => f)
theorem Num16.new (w : World) (f : Nat → Int) (t : TypeId) : Num16 (w.alloc (.cells (numA f) t)) w.heap.size f := ⟨t, heap_alloc_new w _⟩
end
theorem Turns.setRow {S : Nat → Prop} {a w : World} (h : Turns S a w) {g : Nat} (hg : g < a.heap.size → S g) (cs : Array Value) : Turns S a (w.setRow g cs) :=
  h.next (S' := fun i => i = g) ⟨rfl, rfl, rfl, by simp, fun k _ hk => setRow_other w g k cs hk⟩ (fun i hi he => by subst he; exact hg hi)

/-- Whether there is such a kind. -/
def inK (kind : Int) : Bool := decide (0 ≤ kind ∧ kind < 16)
theorem inK_in {k : Nat} (h : k < 16) : inK (k : Int) = true := by simp [inK]; omega
theorem inK_cases (kind : Int) : (∃ k : Nat, k < 16 ∧ kind = k ∧ inK kind = true) ∨ (inK kind = false ∧ (kind < 0 ∨ (0 ≤ kind ∧ 16 ≤ kind))) := by
  by_cases h : 0 ≤ kind ∧ kind < 16
  · exact .inl ⟨kind.toNat, by omega, by omega, by simp [inK, h]⟩
  · exact .inr ⟨by simp only [inK, decide_eq_false_iff_not]; exact h, by omega⟩
/-- A count. -/
def getF (f : Nat → Int) (kind : Int) : Int := if inK kind then f kind.toNat else 0
/-- It is that much, if it may be. -/
def toF (f : Nat → Int) (kind : Int) (to : Int) (may : Bool) : Nat → Int := if inK kind && may then setF f kind.toNat to else f
/-- So much more. -/
def addF (f : Nat → Int) (kind : Int) (y : Int) : Nat → Int := toF f kind (wrap64 (f kind.toNat + y)) true
def addN (f : Nat → Int) (kind : Int) (y : Int) : Int := if inK kind then wrap64 (f kind.toNat + y) else 0

theorem infoTal : (Try.prog.info? 31).map (fun i => (i.zero, i.size, i.bytes)) = some (some (.agg (numA fun _ => 0)), 16, 128) := by kernel_rfl
theorem zeroTal_run (w : World) : (zeroValue 31).run Try.prog w = .ok (.agg (numA fun _ => 0)) w := by
  obtain ⟨i0, hi, hz0, hz1, hz2⟩ := info_parts infoTal
  simp [zeroValue, typeInfo, hi, hz0]

/-- A new tally. -/
def NewT (w : World) (e : Ending) (w' : World) : Prop := e = .returned (.pointer (some ⟨w.heap.size, 0, none⟩)) ∧ w' = w.alloc (.cells (numA fun _ => 0) 31)
set_option maxRecDepth 100000 in
theorem new4_calls (w : World) : Calls Try.prog 17 #[] w (NewT w) := by
  have hz := zeroTal_run
  go_enter Try.func17, Try.ntmps17
  go_wp2
  go_ret
  exact ⟨rfl, rfl⟩

set_option maxRecDepth 100000 in
theorem count_in (B k : Nat) (w : World) (hk : k < 16) : Calls Try.prog 18 #[.pointer (some ⟨B, 0, none⟩), .int .i64 (k : Int)] w fun e w' => e = .returned (.pointer (some ⟨B, k, none⟩)) ∧ w = w' := by
  go_enter Try.func18, Try.ntmps18
  go_wp2
  go_ret
  exact ⟨rfl, rfl⟩
set_option maxRecDepth 100000 in
theorem count_out (B : Nat) (kind : Int) (w : World) (hk : kind < 0 ∨ (0 ≤ kind ∧ 16 ≤ kind)) : Calls Try.prog 18 #[.pointer (some ⟨B, 0, none⟩), .int .i64 kind] w fun e w' => e = .returned (.pointer none) ∧ w = w' := by
  rcases hk with hk | ⟨hk0, hk⟩
  all_goals
    go_enter Try.func18, Try.ntmps18
    go_wp2
    go_ret
    exact ⟨rfl, rfl⟩

set_option maxRecDepth 100000 in
theorem load64_calls (a : Addr) (x : Int) (w : World) (hc : w.cell? a = some (.int .i64 x)) :
    Calls Try.prog 20 #[.pointer (some a)] w fun e w' => e = .returned (.int .i64 x) ∧ w = w' := by
  have hl := run_call_load (P := Try.prog) Try.func24 (by kernel_rfl) (by kernel_rfl) (by kernel_rfl) .i64 (by kernel_rfl) hc
  go_enter Try.func20, Try.ntmps20
  go_wp2
  go_ret
  exact ⟨rfl, rfl⟩
set_option maxRecDepth 100000 in
theorem store64_calls (a : Addr) (x : Value) (y : Int) (w : World) (hc : w.cell? a = some x) (hz : w.frozen? a = false) :
    Calls Try.prog 22 #[.pointer (some a), .int .i64 y] w fun e w' => e = .returned (.tuple #[]) ∧ w' = w.setCell a (.int .i64 y) := by
  have hst := run_call_store (P := Try.prog) Try.func26 (by kernel_rfl) (by kernel_rfl) (by kernel_rfl) (by kernel_rfl) (k := .i64) (y := y) hc hz
  go_enter Try.func22, Try.ntmps22
  go_wp2
  go_end0
  exact ⟨rfl, rfl⟩
theorem add64_run (x y : Int) (w : World) : (Op.intArith .add .i64 x y).run Try.prog w = .ok (.int .i64 (wrap64 (x + y))) w := by
  simp [go_sem, IntWalk.i64_left]
set_option maxRecDepth 100000 in
theorem add64_calls (a : Addr) (x y : Int) (w : World) (hc : w.cell? a = some (.int .i64 x)) (hz : w.frozen? a = false) :
    Calls Try.prog 19 #[.pointer (some a), .int .i64 y] w fun e w' => e = .returned (.int .i64 (wrap64 (x + y))) ∧ w' = w.setCell a (.int .i64 (wrap64 (x + y))) := by
  have hadd := run_call_add (P := Try.prog) Try.func23 (by kernel_rfl) (by kernel_rfl) (by kernel_rfl) .i64 (by kernel_rfl) (y := y) (s := wrap64 (x + y)) hc hz (add64_run x y w)
  generalize wrap64 (x + y) = s at *
  go_enter Try.func19, Try.ntmps19
  go_wp2
  go_ret
  exact ⟨rfl, rfl⟩
set_option maxRecDepth 100000 in
theorem cas_hit (a : Addr) (x y : Int) (w : World) (hc : w.cell? a = some (.int .i64 x)) (hz : w.frozen? a = false) :
    Calls Try.prog 21 #[.pointer (some a), .int .i64 x, .int .i64 y] w fun e w' => e = .returned (.bool true) ∧ w' = w.setCell a (.int .i64 y) := by
  have hcas := run_call_cas_hit (P := Try.prog) Try.func25 (by kernel_rfl) (by kernel_rfl) (by kernel_rfl) .i64 (by kernel_rfl) (y := y) hc hz
  go_enter Try.func21, Try.ntmps21
  go_wp2
  go_ret
  exact ⟨rfl, rfl⟩
set_option maxRecDepth 100000 in
theorem cas_miss (a : Addr) (x o y : Int) (w : World) (hc : w.cell? a = some (.int .i64 x)) (hz : w.frozen? a = false) (hne : ¬ x = o) :
    Calls Try.prog 21 #[.pointer (some a), .int .i64 o, .int .i64 y] w fun e w' => e = .returned (.bool false) ∧ w = w' := by
  have hcas := run_call_cas_miss (P := Try.prog) Try.func25 (by kernel_rfl) (by kernel_rfl) (by kernel_rfl) .i64 (by kernel_rfl) (y := y) hc hz hne
  go_enter Try.func21, Try.ntmps21
  go_wp2
  go_ret
  exact ⟨rfl, rfl⟩
end Go.Proofs.Ytbpccjofopenoaa

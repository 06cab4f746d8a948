/-
  Functions that ask something ahead of a deed (package elder): each tells an error's number, or none; several, one behind the other; a deed behind them.
  Conditions: none beyond each theorem's own.
-/
import Derived.Test.YtiodbghokiajjaaDoorNames
namespace Go.Proofs.YtiodbghokiajjaaDoor
open Go.RowKit

/-- The first error of several. -/
def first7 : List Int → Int
  | [] => 0
  | e :: l => if e = 0 then first7 l else e

/-- The value v is a function that tells the error n, now and in every later world. -/
def Ask7 (v : Value) (n : Int) (w : World) : Prop :=
  ∃ g lb, v = .func (.func g) #[] lb ∧ (∀ args w, (callFunc g args).run Tryd.prog w = .ok (.enter g args) w) ∧
    ∀ W : World, Below w.heap.size w W → Calls Tryd.prog g lb W (Errs5 n W)
theorem Ask7.later {v : Value} {n : Int} {w W : World} (h : Ask7 v n w) (hb : Below w.heap.size w W) : Ask7 v n W := by
  obtain ⟨g, lb, e, eg, hp⟩ := h
  exact ⟨g, lb, e, eg, fun W' hb' => hp W' (below_next hb hb')⟩
/-- .. that tells the truth b. -/
def Holds7 (v : Value) (b : Bool) (w : World) : Prop :=
  ∃ g lb, v = .func (.func g) #[] lb ∧ (∀ args w, (callFunc g args).run Tryd.prog w = .ok (.enter g args) w) ∧
    ∀ W : World, Below w.heap.size w W → Calls Tryd.prog g lb W (Tells5 b W)
theorem Holds7.later {v : Value} {b : Bool} {w W : World} (h : Holds7 v b w) (hb : Below w.heap.size w W) : Holds7 v b W := by
  obtain ⟨g, lb, e, eg, hp⟩ := h
  exact ⟨g, lb, e, eg, fun W' hb' => hp W' (below_next hb hb')⟩
/-- A function value is told that asks; nothing that was there has turned. -/
def Makes7 (n : Int) (w : World) (e : Ending) (w' : World) : Prop := ∃ g lb, e = .returned (.func (.func g) #[] lb) ∧ Ask7 (.func (.func g) #[] lb) n w' ∧ Below w.heap.size w w'

/-- Askers in a row at block B. -/
def AskRow7 (w : World) (B : Nat) (l : List (Value × Int)) : Prop := B < w.heap.size ∧ ∀ j (h : j < l.length), w.cell? ⟨B, j, none⟩ = some l[j].1 ∧ Ask7 l[j].1 l[j].2 w
theorem AskRow7.later {w W : World} {B : Nat} {l : List (Value × Int)} (h : AskRow7 w B l) (hb : Below w.heap.size w W) : AskRow7 W B l :=
  ⟨Nat.lt_of_lt_of_le h.1 hb.size, fun j hj => ⟨(hb.cell (p := ⟨B, j, none⟩) h.1).trans (h.2 j hj).1, (h.2 j hj).2.later hb⟩⟩

end Go.Proofs.YtiodbghokiajjaaDoor

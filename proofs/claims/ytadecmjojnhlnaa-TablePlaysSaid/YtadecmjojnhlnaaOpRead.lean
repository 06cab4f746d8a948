/-
  Read of an operation: of any bytes the operation, or what is wrong first.
  Conditions: the table reads as it is laid.
-/
import Derived.Test.YtadecmjojnhlnaaOpPart
namespace Go.Proofs.Ytadecmjojnhlnaa
open Go.RowKit

theorem results_two14 {P : Program} {fn : Func} {p u : Tmp} {ty : TypeId} (h : fn.results = #[.cell p ty, .tmp u]) (tmps : Array Value) (w : World) (g : Nat) (t : TypeId) (cs : Array Value) (fr : Nat × Nat) (d : TypeDesc)
    (hp : tmps.getD p undef = .pointer (some ⟨g, 0, none⟩)) (hg : w.heap[g]? = some (.cells cs t fr))
    (hu : P.underlying ty = some d) (hd : (match d with | .struct _ | .array _ _ => true | _ => false) = true) (hi : (P.info? ty).map (·.size) = some cs.size) :
    (results fn tmps).run P w = .ok (.tuple #[.agg cs, tmps.getD u undef]) w := by
  have hp' : tmps[p]?.getD undef = .pointer (some ⟨g, 0, none⟩) := by simpa using hp
  rw [results_cell_tmp h]
  simp [hp', asAddr, run_loadVar_row w g t ty cs fr d hg hu hd hi, Result.andThen]

/-- Part by part. -/
def fold14 (l : List UInt8) (p : St × O14) : St × O14 := l.foldl (fun p c => (stp14 p.1 c, opp14 p.1 p.2 c)) p
theorem fold14_left : ∀ (l : List UInt8) (p : St × O14), (fold14 l p).1.bs.length ≤ p.1.bs.length
  | [], _ => Nat.le_refl _
  | c :: l, p => Nat.le_trans (fold14_left l _) (stp14_left p.1 c)
/-- Behind the kind. -/
def hd14 (bs : List UInt8) : St := if know14 (numS ⟨bs, 0⟩ 1).2 = true then (numS ⟨bs, 0⟩ 1).1 else failS (numS ⟨bs, 0⟩ 1).1 4
def rdo14 (bs : List UInt8) : St × O14 := fold14 (sig14 (numS ⟨bs, 0⟩ 1).2) (hd14 bs, zero14 (UInt8.ofNat (numS ⟨bs, 0⟩ 1).2))
/-- The error, and the operation. -/
def rde14 (bs : List UInt8) : Int := if 64 < bs.length then 3 else endS (rdo14 bs).1
def rdv14 (bs : List UInt8) : O14 := if rde14 bs = 0 then (rdo14 bs).2 else zero14 0
theorem hd14_left (bs : List UInt8) : (hd14 bs).bs.length ≤ bs.length := by
  have h2 := numS_left ⟨bs, 0⟩ 1
  have h3 := failS_length (numS ⟨bs, 0⟩ 1).1 4
  unfold hd14
  split
  · exact h2
  · exact Nat.le_trans h3 h2

end Go.Proofs.Ytadecmjojnhlnaa

/-
  No cell of these rows narrows 'for every input' (looked for: loops, veiled, ifaces, maps, wideKeys, modest, calm, conditions, laid).
  DERIVED. THE GIVEN ROWS OF THIS SEAT. 2 by the template 'for every input the law returns true; each argument reads behind the call as it read before'; 0 by the template 'total and deterministic' (their statements: YtkcddihigagknaaTotals.lean).
  GIVEN WITH THE SEED: the statements are not yours to turn. If you find one false, say at which input.
  Laid BY PROGRAM, IN A SANDBOX (cutbox-rows.mjs): the forced cells as the released guide's own fill.sh prints them over the translation 7a1e0f53de27c5f3… (all of the seat's roots in one cut). By AI agents, Wed Nov 11 2026. No macro, syntax, notation, axiom, sorry.
-/
import Derived.Test.YtkcddihigagknaaChecked
import GoSem.Claim
import GoSem.ClaimJoined
import GoSem.ClaimMapViews
import Derived.JoinedTies
import Derived.KernelRfl
namespace Go.Proofs.Ytkcddihigagknaa
/- THE CELL 'sum', in the pinned program and in every row, IS THE sha256 OF THE DUMP (.gsa) THAT YtkcddihigagknaaProg.lean LOADS. Nothing in Lean hashes anything: it is a label: what it is worth is what the hold of that sum in a sandbox is worth. -/
noncomputable def Try.pinned : Pinned := { name := "ytkcddihigagknaa", sum := "7a1e0f53de27c5f3f39384956033452a16eff5342d57302dd7d9421d7e119c74", checked := Try.checked }
namespace Rows
def none {H : Type} : Left H := { results := [], args := [] }

/-- 'interrexlaw16.AdvertPlays': WHATEVER THE INPUT: true; the input reads as it did. -/
def advertPlaysSpec : ChangeSpec := { name := "advertPlays", fn := fun _ => fun
  | [d1, d2, d3] => { results := [.lit (.bool true)], args := [d1, d2, d3] }
  | _ => none }
def advertPlaysRow : OpenClaim := { program := "ytkcddihigagknaa", sum := "7a1e0f53de27c5f3f39384956033452a16eff5342d57302dd7d9421d7e119c74", func := "interrex/interrexlaw16.AdvertPlays", spec := "advertPlays", apart := false }
def AdvertPlaysSaid : Prop := advertPlaysRow.holds Try.pinned (OpenSpec.ofChange advertPlaysSpec)

/-- ITS FALSE NEIGHBOUR: 'it returns false'. Refute it at one input. -/
def advertPlaysWrong : ChangeSpec := { name := "advertPlays", fn := fun _ => fun
  | [d1, d2, d3] => { results := [.lit (.bool false)], args := [d1, d2, d3] }
  | _ => none }
def AdvertPlaysWrongFalsely : Prop := advertPlaysRow.holds Try.pinned (OpenSpec.ofChange advertPlaysWrong)

/-- 'interrexlaw16.AdvertAll': WHATEVER THE INPUT: true; the input reads as it did. -/
def advertAllSpec : ChangeSpec := { name := "advertAll", fn := fun _ => fun
  | [d1, d2, d3, d4] => { results := [.lit (.bool true)], args := [d1, d2, d3, d4] }
  | _ => none }
def advertAllRow : OpenClaim := { program := "ytkcddihigagknaa", sum := "7a1e0f53de27c5f3f39384956033452a16eff5342d57302dd7d9421d7e119c74", func := "interrex/interrexlaw16.AdvertAll", spec := "advertAll", apart := false }
def AdvertAllSaid : Prop := advertAllRow.holds Try.pinned (OpenSpec.ofChange advertAllSpec)

/-- ITS FALSE NEIGHBOUR: 'it returns false'. Refute it at one input. -/
def advertAllWrong : ChangeSpec := { name := "advertAll", fn := fun _ => fun
  | [d1, d2, d3, d4] => { results := [.lit (.bool false)], args := [d1, d2, d3, d4] }
  | _ => none }
def AdvertAllWrongFalsely : Prop := advertAllRow.holds Try.pinned (OpenSpec.ofChange advertAllWrong)

/- THE SECOND FORM. 'bulk': how many values and letters a reading holds, each counted each time it is reached (what is shared counts as often as it is met; a slice's spare places count too). A statement '..UptoSaid' is the law's where the arguments, and the package variables that the reading takes, are together of bulk at most 1048576: NARROWER than '..Said'. Prove '..Said' where nothing that the law and all that it calls make is longer than what came in: it says more and counts as full. Else prove '..UptoSaid'. A law counts once. -/
mutual
def uptoBulk {H : Type} : DataW H → Nat
  | .lit (.string bytes) => bytes.length + 1
  | .lit _ => 1
  | .nil => 1
  | .ptr d => uptoBulk d + 1
  | .slice elems spare => uptoBulkAll elems + uptoBulkAll spare + 1
  | .agg parts => uptoBulkAll parts + 1
  | .iface _ d => uptoBulk d + 1
  | .map entries => uptoBulkEntries entries + 1
  | .held _ => 1
def uptoBulkAll {H : Type} : List (DataW H) → Nat
  | [] => 0
  | d :: r => uptoBulk d + uptoBulkAll r
def uptoBulkEntries {H : Type} : List (Lit × DataW H) → Nat
  | [] => 0
  | x :: r => uptoBulkEntry x + uptoBulkEntries r
def uptoBulkEntry {H : Type} : Lit × DataW H → Nat
  | (.string bytes, d) => bytes.length + uptoBulk d + 1
  | (_, d) => uptoBulk d + 1
 end
def uptoSmall : (H : Type) → List (DataW H) → Bool := fun _ ds => decide (uptoBulkAll ds ≤ 1048576)
def OpenSpec.upto (s : _root_.Go.ChangeSpec) : _root_.Go.OpenSpec := { _root_.Go.OpenSpec.ofChange s with cond := some uptoSmall }

/-- 'interrexlaw16.AdvertPlays', WHERE WHAT IT READS IS OF BULK AT MOST 1048576: true; the input reads as it did. -/
def advertPlaysUptoRow : OpenClaim := { program := "ytkcddihigagknaa", sum := "7a1e0f53de27c5f3f39384956033452a16eff5342d57302dd7d9421d7e119c74", func := "interrex/interrexlaw16.AdvertPlays", spec := "advertPlays", apart := false, narrowed := true }
def AdvertPlaysUptoSaid : Prop := advertPlaysUptoRow.holds Try.pinned (OpenSpec.upto advertPlaysSpec)

/-- 'interrexlaw16.AdvertAll', WHERE WHAT IT READS IS OF BULK AT MOST 1048576: true; the input reads as it did. -/
def advertAllUptoRow : OpenClaim := { program := "ytkcddihigagknaa", sum := "7a1e0f53de27c5f3f39384956033452a16eff5342d57302dd7d9421d7e119c74", func := "interrex/interrexlaw16.AdvertAll", spec := "advertAll", apart := false, narrowed := true }
def AdvertAllUptoSaid : Prop := advertAllUptoRow.holds Try.pinned (OpenSpec.upto advertAllSpec)

end Rows
end Go.Proofs.Ytkcddihigagknaa

/-
  What was noted last of each node: a map keyed by a number of a byte; an act out of a row of acts; the law's example.
  Conditions: none.
-/
import Derived.Test.YtkcddihigagknaaAdvL
import Derived.Test.YtkcddihigagknaaOpenA16
import Derived.Maps.OwnSet
namespace Go.Proofs.Ytkcddihigagknaa
open Go.RowKit Go.Maps

/-- Block S is a map that tells f of each key. -/
def Last16 (w : World) (S q : Nat) (f : Nat → Nat) : Prop :=
  ∃ D : DataW Unit, w.ownsMap Try.prog 5 (plainElem Try.prog 36) S q D ∧ ∀ k : Nat, k < 256 → D.atKey (.int .u8 (k : Int)) (.lit (.int .u8 0)) = .lit (.int .u8 (f k : Nat))
theorem keyed16 : Keyed Try.prog 5 := int_keyed Try.underlying5
theorem wf16 {k : Nat} (hk : k < 256) : (Lit.int .u8 (k : Int)).wf = true := by
  simp [Lit.wf, IntKind.min, IntKind.max, IntKind.signed, IntKind.bits]
  omega
theorem zero16_run (w : World) : (zeroValue 36).run Try.prog w = .ok (.int .u8 0) w := by kernel_rfl
theorem Last16.new (w : World) : Last16 (w.alloc (.map #[] 0)) w.heap.size 0 (fun _ => 0) := ⟨_, World.ownsMap_made w _ _ _, fun _ _ => rfl⟩
section
variable {w w' : World} {S q : Nat} {f : Nat → Nat}
theorem Last16.kept (h : Last16 w S q f) (hb : w'.heap[S]? = w.heap[S]?) : Last16 w' S q f := by
  obtain ⟨D, ⟨es, clock, h1, r⟩, h2⟩ := h
  exact ⟨D, ⟨es, clock, hb.trans h1, r⟩, h2⟩
theorem Last16.lt (h : Last16 w S q f) : S < w.heap.size := by
  obtain ⟨D, h1, _⟩ := h
  exact h1.lt
theorem Last16.turns {T : Nat → Prop} (h : Last16 w S q f) (ht : Turns T w w') (hn : ¬ T S) : Last16 w' S q f := h.kept (ht.block S h.lt hn)
theorem Last16.later (h : Last16 w S q f) (hb : Below w.heap.size w w') : Last16 w' S q f := h.kept (hb.block S h.lt)
theorem Last16.look (h : Last16 w S q f) {k : Nat} (hk : k < 256) : (Instr.lookup 51 (.map (some S)) (.int .u8 (k : Int)) false).run Try.prog w = .ok (.int .u8 (f k : Nat)) w := by
  obtain ⟨D, h1, h2⟩ := h
  obtain ⟨c, hrun, hat, _⟩ := h1.lookup_int keyed16 Try.underlying51 Try.underlying36 (zero16_run w) (keyOf_int_mk Try.underlying5 (wf16 hk))
  rw [h2 k hk] at hat
  have : c = (f k : Nat) := by
    injection hat with hat
    injection hat with _ hat
    exact hat.symm
  rw [hrun, this]
theorem Last16.store (h : Last16 w S q f) {k v : Nat} (hk : k < 256) (hv : v < 256) (hq : q < 1000) :
    ∃ w1, (Instr.mapUpdate 51 (.map (some S)) (.int .u8 (k : Int)) (.int .u8 (v : Int))).run Try.prog w = .ok () w1 ∧ Last16 w1 S (q + 1) (fun i => if i = k then v else f i) ∧ Turns (fun i => i = S) w w1 := by
  obtain ⟨D, h1, h2⟩ := h
  obtain ⟨w1, hrun, hown, hturn⟩ := h1.store keyed16 Try.underlying51 (by simp only [maxLen]; omega) (keyOf_int_mk Try.underlying5 (wf16 hk)) (plainElem_int (H := Unit) Try.underlying36 (wf16 hv))
  refine ⟨w1, hrun, ⟨_, hown, fun i hi => ?_⟩, ?_⟩
  · show _ = DataW.lit (.int .u8 ((if i = k then v else f i : Nat) : Int))
    by_cases e : i = k
    · subst e
      rw [atKey_put_same h1.isMap (show WideAt.IsKeyLit (.int .u8 _) from trivial), if_pos rfl]
    · rw [atKey_put_other (fun h => by injection h with _ h; omega), if_neg e]
      exact h2 i hi
  · exact (Turns.refl _ w).grown hturn.grown (fun k hk _ => by injection hk with hk; exact hk.symm)
end

/-- An act out of a row. -/
theorem RdAB.at16 {w : World} {A : Option Addr} {l : List AcB} (h : RdAB w A l) (k : Nat) (hk : k < l.length) : ∃ b off, A = some ⟨b, off, none⟩ ∧ w.cell? ⟨b, off + k * 3, none⟩ = some (.int .u8 (l[k].kd : Int)) ∧
    w.cell? ⟨b, off + k * 3 + 1, none⟩ = some (.int .u8 (l[k].nd : Int)) ∧ w.cell? ⟨b, off + k * 3 + 2, none⟩ = some (.int .u8 (l[k].rl : Int)) := by
  obtain ⟨b, off, rfl, _, hc⟩ := h (by intro e; subst e; simp at hk)
  exact ⟨b, off, rfl, hc k hk 0 _ rfl, hc k hk 1 _ rfl, hc k hk 2 _ rfl⟩

set_option maxRecDepth 100000 in
set_option maxHeartbeats 2000000 in
theorem lives16_calls (w : World) : Calls Try.prog 5 #[] w (Says14 (.bool true) w) := by
  have HNE : Hid (Calls Try.prog 6 #[.int .i64 3] w (Newly16 3 w)) := New16_calls 3 w (by decide)
  unfold Newly16 at HNE
  go_enter Try.func5, Try.ntmps5
  go_wp2_with fail
  with_reducible refine HNE.out.mono ?_
  rintro e w1 ⟨B, A, rfl, hA, hB, hb, hbd⟩
  have hbd : Bd16 w1 B A 3 [0, 0, 0] := hbd
  have HB1 := Lib.hid hb
  have HBD := Lib.hid hbd
  clear hb hbd HNE
  have H1 : Hid (Calls Try.prog 9 #[.pointer (some ⟨B, 0, none⟩), .int .u8 0, .int .u8 3] w1 fun e w' => e = .returned (.int .i64 0) ∧ Bd16 w' B A 3 [3, 0, 0] ∧ Turns (fun k => k = A) w1 w') := Note16_calls HBD.out 0 3 (by decide)
  go_wp2_with fail
  with_reducible refine H1.out.mono ?_
  rintro e w2 ⟨rfl, hbd, ht⟩
  have HBD2 := Lib.hid hbd
  have HB2 : Hid (Below w.heap.size w w2) := ((Turns.of_below HB1.out (fun k => w.heap.size ≤ k)).next ht (fun i _ e => by have := e; omega)).below (fun i h => h)
  clear hbd ht H1 HBD HB1
  have H1 : Hid (Calls Try.prog 9 #[.pointer (some ⟨B, 0, none⟩), .int .u8 1, .int .u8 3] w2 fun e w' => e = .returned (.int .i64 0) ∧ Bd16 w' B A 3 [3, 3, 0] ∧ Turns (fun k => k = A) w2 w') := Note16_calls HBD2.out 1 3 (by decide)
  go_wp2_with fail
  with_reducible refine H1.out.mono ?_
  rintro e w3 ⟨rfl, hbd, ht⟩
  have HBD3 := Lib.hid hbd
  have HB3 : Hid (Below w.heap.size w w3) := ((Turns.of_below HB2.out (fun k => w.heap.size ≤ k)).next ht (fun i _ e => by have := e; omega)).below (fun i h => h)
  clear hbd ht H1 HBD2 HB2
  have H1 : Hid (Calls Try.prog 9 #[.pointer (some ⟨B, 0, none⟩), .int .u8 2, .int .u8 1] w3 fun e w' => e = .returned (.int .i64 0) ∧ Bd16 w' B A 3 [3, 3, 1] ∧ Turns (fun k => k = A) w3 w') := Note16_calls HBD3.out 2 1 (by decide)
  go_wp2_with fail
  with_reducible refine H1.out.mono ?_
  rintro e w4 ⟨rfl, hbd, ht⟩
  have HBD4 := Lib.hid hbd
  have HB4 : Hid (Below w.heap.size w w4) := ((Turns.of_below HB3.out (fun k => w.heap.size ≤ k)).next ht (fun i _ e => by have := e; omega)).below (fun i h => h)
  clear hbd ht H1 HBD3 HB3
  have H1 : Hid (Calls Try.prog 15 #[.pointer (some ⟨B, 0, none⟩), .int .u8 2] w4 (Fresh w4 [2])) := Lacking16_calls HBD4.out 2 (by decide)
  unfold Fresh at H1
  clear HBD4
  go_wp2_with fail
  with_reducible refine H1.out.mono ?_
  rintro e w5 ⟨v, rfl, ho, _, ht⟩
  have ho : w5.ownsRow 0 5 1 v 1 (cellsOf [2]) := ho
  obtain ⟨g, cap, rfl, _, hlt⟩ := ho.form (by decide)
  have hcl := ho.cells (g := g) rfl 0 (.int .u8 2) rfl
  have hcl : w5.cell? ⟨g, 0, none⟩ = some (.int .u8 2) := by rw [Addr.add_lit] at hcl; exact hcl
  have HB5 := Lib.hid (next14 HB4.out (still14 ht))
  clear ho ht H1 HB4
  clear hlt hA hB
  go_wp2
  go_ret
  exact ⟨rfl, HB5.out⟩
end Go.Proofs.Ytkcddihigagknaa

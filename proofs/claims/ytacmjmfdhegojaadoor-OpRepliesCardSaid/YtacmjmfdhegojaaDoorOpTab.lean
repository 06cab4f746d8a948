/-
  The table of kinds as it is laid, and what of, From and Name tell out of it.
  Conditions: the table reads as it is laid.
-/
import Derived.WalkKit
import Derived.WalkSpells
import Derived.Deep.Draws
import Derived.Deep.LoopGhost
import Derived.Deep.QuietTactic
import Derived.BigQuiet
import Derived.Lib.Hide
import Derived.KernelRfl
import Derived.Lib.OthersKept
import Derived.Test.YtacmjmfdhegojaaDoorProg
import Derived.Test.YtacmjmfdhegojaaDoorWords
namespace Go.Proofs.YtacmjmfdhegojaaDoor
open Go.RowKit

theorem next14 {a b c : World} (h : Below a.heap.size a b) (k : Below b.heap.size b c) : Below a.heap.size a c := h.trans (k.mono h.size)
theorem drew14 {a w : World} (h : Below a.heap.size a w) : Below a.heap.size a w.drew := h.drew
theorem drewN14 {a w : World} (h : Below a.heap.size a w) (q : Nat) : Below a.heap.size a (w.drewN q) := ⟨h.os, h.tape, h.output, h.size, h.block⟩
theorem alloc14 {a w : World} (h : Below a.heap.size a w) (o : Obj) : Below a.heap.size a (w.alloc o) := h.alloc h.size o
theorem still14 {a w : World} (h : Turns (fun _ => False) a w) : Below a.heap.size a w := h.below (fun _ f => f.elim)
theorem turns14 {a w : World} (h : Below a.heap.size a w) : Turns (fun _ => False) a w := Turns.of_below h _

/-- What the kinds are called, which parts they have, and from which schema on there are such. -/
def nams14 : List (List UInt8) := [[99, 114, 101, 97, 116, 101], [100, 101, 108, 101, 116, 101], [115, 101, 116, 104, 97, 115, 104], [108, 111, 111, 107, 117, 112], [108, 105, 115, 116], [115, 101, 116, 109, 97, 105, 108], [100, 105, 115, 97, 98, 108, 101], [101, 110, 97, 98, 108, 101], [114, 101, 110, 97, 109, 101], [109, 97, 107, 101], [100, 114, 111, 112], [106, 111, 105, 110], [108, 101, 97, 118, 101], [102, 105, 110, 100], [109, 101, 109, 98, 101, 114, 115], [117, 112, 103, 114, 97, 100, 101], [97, 100, 118, 101, 114, 116, 105, 115, 101]]
def sigs14 : List (List UInt8) := [[97, 98], [97], [97, 98], [97], [97], [97, 98], [97], [97], [97, 98], [97], [97], [97, 98], [97, 98], [97], [97], [], [110, 114]]
def frms14 : List Int := [1, 1, 1, 1, 1, 2, 2, 2, 2, 2, 2, 2, 2, 2, 2, 1, 1]
def nam14 (k : Int) : List UInt8 := if k < 0 then [] else nams14.getD k.toNat []
def sig14 (k : Int) : List UInt8 := if k < 0 then [] else sigs14.getD k.toNat []
def frm14 (k : Int) : Int := if k < 0 then 0 else frms14.getD k.toNat 0
theorem sig14_few (k : Int) : (sig14 k).length ≤ 2 := by
  unfold sig14
  split
  · exact Nat.zero_le _
  · have hall : ∀ s ∈ sigs14, s.length ≤ 2 := by decide
    rw [List.getD_eq_getElem?_getD]
    rcases h : sigs14[k.toNat]? with _ | s
    · exact Nat.zero_le _
    · exact hall s (List.mem_of_getElem? h)
theorem sig14_signs (k : Int) : ∀ c ∈ sig14 k, c = 97 ∨ c = 98 ∨ c = 110 ∨ c = 114 := by
  unfold sig14
  split
  · intro c hc; cases hc
  · have hall : ∀ s ∈ sigs14, ∀ c ∈ s, c = 97 ∨ c = 98 ∨ c = 110 ∨ c = 114 := by decide
    rw [List.getD_eq_getElem?_getD]
    rcases h : sigs14[k.toNat]? with _ | s
    · intro c hc; cases hc
    · exact hall s (List.mem_of_getElem? h)
theorem none14 {k : Int} (h : ¬ (0 ≤ k ∧ k < 17)) : nam14 k = [] ∧ sig14 k = [] ∧ frm14 k = 0 := by
  unfold nam14 sig14 frm14
  by_cases h0 : k < 0
  · rw [if_pos h0, if_pos h0, if_pos h0]; exact ⟨rfl, rfl, rfl⟩
  · rw [if_neg h0, if_neg h0, if_neg h0]
    have h1 : 17 ≤ k.toNat := by omega
    refine ⟨?_, ?_, ?_⟩
    · rw [List.getD_eq_getElem?_getD, List.getElem?_eq_none (by exact h1)]; rfl
    · rw [List.getD_eq_getElem?_getD, List.getElem?_eq_none (by exact h1)]; rfl
    · rw [List.getD_eq_getElem?_getD, List.getElem?_eq_none (by exact h1)]; rfl

/-- A text. -/
def tx14 (l : List UInt8) : ByteArray := ⟨l.toArray⟩
theorem tx14_list (l : List UInt8) : (tx14 l).data.toList = l := by simp [tx14]
theorem tx14_size (l : List UInt8) : (tx14 l).size = l.length := by show l.toArray.size = _; simp
theorem tx14_back (s : ByteArray) : tx14 s.data.toList = s := by
  obtain ⟨⟨l⟩⟩ := s
  rfl
theorem tx14_at (l : List UInt8) (k : Nat) (h : k < (tx14 l).size) : (tx14 l)[k]'h = l[k]'(by rw [← tx14_size]; exact h) := by
  show (tx14 l).data[k]'h = _
  simp [tx14]

/-- The table reads as it is laid. -/
structure Laid14 (w : World) : Prop where
  lt : 0 < w.heap.size
  nam : ∀ k : Nat, k < 17 → w.cell? ⟨0, k * 3, none⟩ = some (.string (tx14 (nam14 k)))
  sig : ∀ k : Nat, k < 17 → w.cell? ⟨0, k * 3 + 1, none⟩ = some (.string (tx14 (sig14 k)))
  frm : ∀ k : Nat, k < 17 → w.cell? ⟨0, k * 3 + 2, none⟩ = some (.int .i64 (frm14 k))
theorem Laid14.turns {S : Nat → Prop} {w w' : World} (h : Laid14 w) (ht : Turns S w w') (hn : ¬ S 0) : Laid14 w' :=
  ⟨Nat.lt_of_lt_of_le h.lt ht.size, fun k hk => (ht.cell (p := ⟨0, _, none⟩) h.lt hn).trans (h.nam k hk),
    fun k hk => (ht.cell (p := ⟨0, _, none⟩) h.lt hn).trans (h.sig k hk), fun k hk => (ht.cell (p := ⟨0, _, none⟩) h.lt hn).trans (h.frm k hk)⟩
theorem Laid14.later {w w' : World} (h : Laid14 w) (hb : Below w.heap.size w w') : Laid14 w' := h.turns (turns14 hb) (fun f => f)

/-- A value is told, and nothing that was there has turned. -/
def Says14 (v : Value) (w : World) (e : Ending) (w' : World) : Prop := e = .returned v ∧ Below w.heap.size w w'

def know14 (k : Int) : Bool := decide (0 ≤ k) && decide (k < 17)
set_option maxRecDepth 100000 in
theorem known14_calls (k : Int) (w : World) : Calls Tryd.prog 28 #[.int .i64 k] w fun e w' => e = .returned (.bool (know14 k)) ∧ w' = w := by
  by_cases h0 : 0 ≤ k
  · by_cases h1 : k < 17
    · have hk : know14 k = true := by simp [know14, h0, h1]
      have d0 : decide (k ≥ 0) = true := by simpa using h0
      have d1 : decide (k < 17) = true := by simpa using h1
      rw [hk]
      clear hk
      go_enter Tryd.func28, Tryd.ntmps28
      go_wp2
      go_ret
      exact ⟨rfl, rfl⟩
    · have hk : know14 k = false := by simp [know14, h1]
      have d0 : decide (k ≥ 0) = true := by simpa using h0
      have d1 : decide (k < 17) = false := by simpa using h1
      rw [hk]
      clear hk
      go_enter Tryd.func28, Tryd.ntmps28
      go_wp2
      go_ret
      exact ⟨rfl, rfl⟩
  · have hk : know14 k = false := by simp [know14, h0]
    have d0 : decide (k ≥ 0) = false := by simpa using h0
    rw [hk]
    clear hk
    go_enter Tryd.func28, Tryd.ntmps28
    go_wp2
    go_ret
    exact ⟨rfl, rfl⟩

theorem sizeTrait : (Tryd.prog.info? 66).map (·.size) = some 3 := by kernel_rfl
/-- What a kind has. -/
def trt14 (k : Int) : Value := .agg #[.string (tx14 (nam14 k)), .string (tx14 (sig14 k)), .int .i64 (frm14 k)]
set_option maxRecDepth 100000 in
theorem of14_calls (k : Int) (w : World) (h : Laid14 w) : Calls Tryd.prog 30 #[.int .i64 k] w (Says14 (trt14 k) w) := by
  have HK := Lib.hid (fun w' => known14_calls k w')
  by_cases hk : 0 ≤ k ∧ k < 17
  · have hb : know14 k = true := by simp [know14, hk]
    obtain ⟨n, rfl⟩ : ∃ n : Nat, k = n := ⟨k.toNat, by omega⟩
    have hn : n < 17 := by omega
    have c0 := h.nam n hn
    have c1 := h.sig n hn
    have c2 := h.frm n hn
    have hlt := h.lt
    unfold trt14
    generalize tx14 (nam14 n) = s0 at *
    generalize tx14 (sig14 n) = s1 at *
    generalize frm14 n = f at *
    rw [hb] at HK
    clear hb h hk
    go_enter Tryd.func30, Tryd.ntmps30
    go_wp2_with (go_at_call 28; (with_reducible refine (HK.out _).mono ?_); rintro e w2 ⟨rfl, rfl⟩)
    go_wp2
    exact bodyPost_ret (results_cell_row Tryd.results30 _ _ w.heap.size _ #[.string s0, .string s1, .int .i64 f] (0, 0) _ rfl (heap_alloc_new w _) Tryd.underlying66 rfl sizeTrait) rfl ⟨rfl, (Below.refl _ w).alloc (Nat.le_refl _) _⟩
  · have hb : know14 k = false := by
      by_cases h0 : 0 ≤ k
      · have h1 : ¬ k < 17 := fun e => hk ⟨h0, e⟩
        simp [know14, h1]
      · simp [know14, h0]
    obtain ⟨e0, e1, e2⟩ := none14 hk
    unfold trt14
    rw [e0, e1, e2]
    rw [hb] at HK
    clear hb e0 e1 e2 hk h
    go_enter Tryd.func30, Tryd.ntmps30
    go_wp2_with (go_at_call 28; (with_reducible refine (HK.out _).mono ?_); rintro e w2 ⟨rfl, rfl⟩)
    go_wp2
    exact bodyPost_ret (results_cell_row Tryd.results30 _ _ w.heap.size _ #[.string ⟨#[]⟩, .string ⟨#[]⟩, .int .i64 0] (0, 0) _ rfl (heap_alloc_new w _) Tryd.underlying66 rfl sizeTrait) rfl ⟨rfl, (Below.refl _ w).alloc (Nat.le_refl _) _⟩
theorem fieldN14 (s0 s1 : ByteArray) (f : Int) (w : World) : (Instr.field 66 (.agg #[.string s0, .string s1, .int .i64 f]) 0).run Tryd.prog w = .ok (.string s0) w := by kernel_rfl
theorem fieldS14 (s0 s1 : ByteArray) (f : Int) (w : World) : (Instr.field 66 (.agg #[.string s0, .string s1, .int .i64 f]) 1).run Tryd.prog w = .ok (.string s1) w := by kernel_rfl
theorem fieldF14 (s0 s1 : ByteArray) (f : Int) (w : World) : (Instr.field 66 (.agg #[.string s0, .string s1, .int .i64 f]) 2).run Tryd.prog w = .ok (.int .i64 f) w := by kernel_rfl
set_option maxRecDepth 100000 in
theorem From14_calls (k : Int) (w : World) (h : Laid14 w) : Calls Tryd.prog 20 #[.int .i64 k] w (Says14 (.int .i64 (frm14 k)) w) := by
  have HO := Lib.hid (of14_calls k w h)
  clear h
  unfold trt14 at HO
  generalize tx14 (nam14 k) = s0 at *
  generalize tx14 (sig14 k) = s1 at *
  generalize frm14 k = f at *
  have hf := fun W => fieldF14 s0 s1 f W
  go_enter Tryd.func20, Tryd.ntmps20
  go_wp2_with (go_at_call 30; (with_reducible refine HO.out.mono ?_); rintro e w2 ⟨rfl, hb⟩; have HB := Lib.hid hb; clear hb)
  go_wp2
  go_ret
  exact ⟨rfl, HB.out⟩
set_option maxRecDepth 100000 in
theorem Name14_calls (k : Int) (w : World) (h : Laid14 w) : Calls Tryd.prog 22 #[.int .i64 k] w (Says14 (.string (tx14 (nam14 k))) w) := by
  have HO := Lib.hid (of14_calls k w h)
  clear h
  unfold trt14 at HO
  generalize tx14 (nam14 k) = s0 at *
  generalize tx14 (sig14 k) = s1 at *
  generalize frm14 k = f at *
  have hf := fun W => fieldN14 s0 s1 f W
  go_enter Tryd.func22, Tryd.ntmps22
  go_wp2_with (go_at_call 30; (with_reducible refine HO.out.mono ?_); rintro e w2 ⟨rfl, hb⟩; have HB := Lib.hid hb; clear hb)
  go_wp2
  go_ret
  exact ⟨rfl, HB.out⟩
end Go.Proofs.YtacmjmfdhegojaaDoor

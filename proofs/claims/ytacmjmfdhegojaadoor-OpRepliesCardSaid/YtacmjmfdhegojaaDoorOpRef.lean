/-
  The document's parts, From and Text of an operation.
  Conditions: texts of at most 65535 bytes.
-/
import Derived.Test.YtacmjmfdhegojaaDoorOpChk
import Derived.Test.YtacmjmfdhegojaaDoorRef
namespace Go.Proofs.YtacmjmfdhegojaaDoor
open Go.RowKit

/-- It lies at block B, as the document has it. -/
def OpRt (w : World) (B : Nat) (o : O14) : Prop := w.heap[B]? = some (.cells #[.int .u8 o.kd.toNat, .string o.a, .string o.b, .int .u8 o.nd.toNat, .int .u8 o.rl.toNat] 26 (0, 0))
section
variable {w w' : World} {B : Nat} {o : O14}
theorem OpRt.lt (h : OpRt w B o) : B < w.heap.size := (Array.getElem?_eq_some_iff.1 h).1
theorem OpRt.c0 (h : OpRt w B o) : w.cell? ⟨B, 0, none⟩ = some (.int .u8 o.kd.toNat) := by rw [cell_of_row w B 0 _ _ (0, 0) h]; rfl
theorem OpRt.c1 (h : OpRt w B o) : w.cell? ⟨B, 1, none⟩ = some (.string o.a) := by rw [cell_of_row w B 1 _ _ (0, 0) h]; rfl
theorem OpRt.c2 (h : OpRt w B o) : w.cell? ⟨B, 2, none⟩ = some (.string o.b) := by rw [cell_of_row w B 2 _ _ (0, 0) h]; rfl
theorem OpRt.c3 (h : OpRt w B o) : w.cell? ⟨B, 3, none⟩ = some (.int .u8 o.nd.toNat) := by rw [cell_of_row w B 3 _ _ (0, 0) h]; rfl
theorem OpRt.c4 (h : OpRt w B o) : w.cell? ⟨B, 4, none⟩ = some (.int .u8 o.rl.toNat) := by rw [cell_of_row w B 4 _ _ (0, 0) h]; rfl
theorem OpRt.fr (h : OpRt w B o) (i : Nat) : w.frozen? ⟨B, i, none⟩ = false := by unfold OpRt at h; simp [World.frozen?, h]
theorem OpRt.turns {S : Nat → Prop} (h : OpRt w B o) (ht : Turns S w w') (hn : ¬ S B) : OpRt w' B o := (ht.block B h.lt hn).trans h
theorem OpRt.later (h : OpRt w B o) {n : Nat} (hn : B < n) (hb : Below n w w') : OpRt w' B o := (hb.block B hn).trans h
theorem OpRt.below (h : OpRt w B o) (hb : Below w.heap.size w w') : OpRt w' B o := h.later h.lt hb
theorem OpRt.iter (h : OpRt w B o) {k : Nat} (hk : B ≠ k) (s : ByteArray) (p : Nat) : OpRt (w.iterAt k s p) B o := (Lib.iterAt_other w k B s p hk).trans h
theorem OpRt.far (h : OpRt w B o) {p : Addr} (hp : B ≠ p.block) (u : Value) : OpRt (w.setCell p u) B o := (Below.heap_setCell w p u B hp).trans h
theorem OpRt.setAll (h : OpRt w B o) (r : O14) : OpRt (((((w.setCell ⟨B, 0, none⟩ (.int .u8 r.kd.toNat)).setCell ⟨B, 1, none⟩ (.string r.a)).setCell ⟨B, 2, none⟩ (.string r.b)).setCell ⟨B, 3, none⟩ (.int .u8 r.nd.toNat)).setCell ⟨B, 4, none⟩ (.int .u8 r.rl.toNat)) B r := by
  unfold OpRt at h ⊢; simp [World.setCell, Array.getElem?_modify, h]
theorem OpRt.set1 (h : OpRt w B o) (s : ByteArray) : OpRt (w.setCell ⟨B, 1, none⟩ (.string s)) B { o with a := s } := by
  unfold OpRt at h ⊢; simp [World.setCell, Array.getElem?_modify, h]
theorem OpRt.set2 (h : OpRt w B o) (s : ByteArray) : OpRt (w.setCell ⟨B, 2, none⟩ (.string s)) B { o with b := s } := by
  unfold OpRt at h ⊢; simp [World.setCell, Array.getElem?_modify, h]
theorem OpRt.set3 (h : OpRt w B o) (x : UInt8) : OpRt (w.setCell ⟨B, 3, none⟩ (.int .u8 x.toNat)) B { o with nd := x } := by
  unfold OpRt at h ⊢; simp [World.setCell, Array.getElem?_modify, h]
theorem OpRt.set4 (h : OpRt w B o) (x : UInt8) : OpRt (w.setCell ⟨B, 4, none⟩ (.int .u8 x.toNat)) B { o with rl := x } := by
  unfold OpRt at h ⊢; simp [World.setCell, Array.getElem?_modify, h]
end


/-- How many texts belong to a kind, and whether there is such a kind. -/
def prts14 : List (Int × Bool) := [(2, true), (1, true), (2, true), (1, true), (1, true), (2, true), (1, true), (1, true), (2, true), (1, true), (1, true), (2, true), (2, true), (1, true), (1, true), (0, true), (-1, true)]
def prt14 (k : Nat) : Int × Bool := prts14.getD k (0, false)
/-- Five ways. -/
theorem cls14 (k : Nat) : (prt14 k = (2, true) ∧ sig14 k = [97, 98] ∧ know14 k = true) ∨ (prt14 k = (1, true) ∧ sig14 k = [97] ∧ know14 k = true) ∨ (prt14 k = (0, true) ∧ sig14 k = [] ∧ know14 k = true) ∨
    (prt14 k = (-1, true) ∧ sig14 k = [110, 114] ∧ know14 k = true) ∨ (prt14 k = (0, false) ∧ sig14 k = [] ∧ know14 k = false) := by
  by_cases h : k < 17
  · have hall : ∀ k : Fin 17, (prt14 k = (2, true) ∧ sig14 k = [97, 98] ∧ know14 k = true) ∨ (prt14 k = (1, true) ∧ sig14 k = [97] ∧ know14 k = true) ∨ (prt14 k = (0, true) ∧ sig14 k = [] ∧ know14 k = true) ∨
        (prt14 k = (-1, true) ∧ sig14 k = [110, 114] ∧ know14 k = true) ∨ (prt14 k = (0, false) ∧ sig14 k = [] ∧ know14 k = false) := by decide
    exact hall ⟨k, h⟩
  · refine .inr (.inr (.inr (.inr ⟨?_, (none14 (k := k) (by omega)).2.1, ?_⟩)))
    · unfold prt14
      rw [List.getD_eq_getElem?_getD, List.getElem?_eq_none (by show 17 ≤ k; omega)]
      rfl
    · have : ¬ (k : Int) < 17 := by omega
      simp [know14, this]

set_option maxRecDepth 100000 in
set_option maxHeartbeats 2000000 in
theorem parts14_calls (k : Nat) (w : World) : Calls Tryd.prog 24 #[.int .u8 k] w (Says14 (.tuple #[.int .i64 (prt14 k).1, .bool (prt14 k).2]) w) := by
  have H0 := Lib.hid (Below.refl w.heap.size w)
  by_cases h : k < 17
  · have hk : k = 0 ∨ k = 1 ∨ k = 2 ∨ k = 3 ∨ k = 4 ∨ k = 5 ∨ k = 6 ∨ k = 7 ∨ k = 8 ∨ k = 9 ∨ k = 10 ∨ k = 11 ∨ k = 12 ∨ k = 13 ∨ k = 14 ∨ k = 15 ∨ k = 16 := by omega
    clear h
    rcases hk with rfl | rfl | rfl | rfl | rfl | rfl | rfl | rfl | rfl | rfl | rfl | rfl | rfl | rfl | rfl | rfl | rfl
    all_goals
      go_enter Tryd.func24, Tryd.ntmps24
      go_wp2
      go_ret2
      exact ⟨rfl, H0.out⟩
  · have hp : prt14 k = (0, false) := by
      unfold prt14
      rw [List.getD_eq_getElem?_getD, List.getElem?_eq_none (by show 17 ≤ k; omega)]
      rfl
    rw [hp]
    clear hp
    have n : ∀ j : Int, j < 17 → ((k : Int) == j) = false := fun j hj => by rw [beq_eq_false_iff_ne]; omega
    have n0 := n 0 (by decide)
    have n1 := n 1 (by decide)
    have n2 := n 2 (by decide)
    have n3 := n 3 (by decide)
    have n4 := n 4 (by decide)
    have n5 := n 5 (by decide)
    have n6 := n 6 (by decide)
    have n7 := n 7 (by decide)
    have n8 := n 8 (by decide)
    have n9 := n 9 (by decide)
    have n10 := n 10 (by decide)
    have n11 := n 11 (by decide)
    have n12 := n 12 (by decide)
    have n13 := n 13 (by decide)
    have n14 := n 14 (by decide)
    have n15 := n 15 (by decide)
    have n16 := n 16 (by decide)
    clear n h
    generalize (k : Int) = x at *
    go_enter Tryd.func24, Tryd.ntmps24
    go_wp2
    go_ret2
    exact ⟨rfl, H0.out⟩

theorem frm14_cases (k : Int) : (k < 0 ∧ frm14 k = 0) ∨ (0 ≤ k ∧ k < 5 ∧ frm14 k = 1) ∨ (5 ≤ k ∧ k ≤ 14 ∧ frm14 k = 2) ∨ (14 < k ∧ k ≤ 16 ∧ frm14 k = 1) ∨ (16 < k ∧ frm14 k = 0) := by
  by_cases h0 : k < 0
  · exact .inl ⟨h0, by unfold frm14; rw [if_pos h0]⟩
  · obtain ⟨n, rfl⟩ : ∃ n : Nat, k = n := ⟨k.toNat, by omega⟩
    by_cases h1 : n < 17
    · have hall : ∀ n : Fin 17, ((n : Nat) < 5 ∧ frm14 n = 1) ∨ (5 ≤ (n : Nat) ∧ (n : Nat) ≤ 14 ∧ frm14 n = 2) ∨ (14 < (n : Nat) ∧ frm14 n = 1) := by decide
      rcases hall ⟨n, h1⟩ with ⟨a, b⟩ | ⟨a, b, c⟩ | ⟨a, b⟩
      · exact .inr (.inl ⟨by omega, by simp only [] at a; omega, b⟩)
      · exact .inr (.inr (.inl ⟨by simp only [] at a; omega, by simp only [] at b; omega, c⟩))
      · exact .inr (.inr (.inr (.inl ⟨by simp only [] at a; omega, by omega, b⟩)))
    · exact .inr (.inr (.inr (.inr ⟨by omega, (none14 (by omega)).2.2⟩)))
set_option maxRecDepth 100000 in
theorem rfrom14_calls (k : Int) (w : World) : Calls Tryd.prog 21 #[.int .i64 k] w (Says14 (.int .i64 (frm14 k)) w) := by
  have H0 := Lib.hid (Below.refl w.heap.size w)
  rcases frm14_cases k with ⟨h0, e⟩ | ⟨h0, h1, e⟩ | ⟨h0, h1, e⟩ | ⟨h0, h1, e⟩ | ⟨h0, e⟩
  all_goals rw [e]; clear e
  · have d0 : decide (k < 0) = true := by simpa using h0
    clear h0
    go_enter Tryd.func21, Tryd.ntmps21
    go_wp2
    go_ret
    exact ⟨rfl, H0.out⟩
  · have d0 : decide (k < 0) = false := by simp; omega
    have d1 : decide (k > 16) = false := by simp; omega
    have d2 : decide (k < 5) = true := by simp; omega
    clear h0 h1
    go_enter Tryd.func21, Tryd.ntmps21
    go_wp2
    go_ret
    exact ⟨rfl, H0.out⟩
  · have d0 : decide (k < 0) = false := by simp; omega
    have d1 : decide (k > 16) = false := by simp; omega
    have d2 : decide (k < 5) = false := by simp; omega
    have d3 : decide (k > 14) = false := by simp; omega
    clear h0 h1
    go_enter Tryd.func21, Tryd.ntmps21
    go_wp2
    go_ret
    exact ⟨rfl, H0.out⟩
  · have d0 : decide (k < 0) = false := by simp; omega
    have d1 : decide (k > 16) = false := by simp; omega
    have d2 : decide (k < 5) = false := by simp; omega
    have d3 : decide (k > 14) = true := by simp; omega
    clear h0 h1
    go_enter Tryd.func21, Tryd.ntmps21
    go_wp2
    go_ret
    exact ⟨rfl, H0.out⟩
  · have d0 : decide (k < 0) = false := by simp; omega
    have d1 : decide (k > 16) = true := by simp; omega
    clear h0
    go_enter Tryd.func21, Tryd.ntmps21
    go_wp2
    go_ret
    exact ⟨rfl, H0.out⟩

theorem le_one14 (b : UInt8) : le b.toNat 1 = [b] := by simp [le]
theorem conv14 {w : World} {v : Value} {l : List UInt8} (h : Rd w v l) : (convert 27 9 v).run Tryd.prog w = .ok (.string (tx14 l)) w :=
  h.string (P := Tryd.prog) (src := 27) (dst := 9) Tryd.underlying27 Tryd.underlying5 Tryd.underlying9
theorem rd_two14 (w : World) (a b : UInt8) : Rd (w.alloc (.cells #[.int .u8 a.toNat, .int .u8 b.toNat] 5)) (.slice (some ⟨w.heap.size, 0, none⟩) 2 2) [a, b] := by
  refine ⟨_, 2, rfl, fun _ => ⟨_, rfl, by simp, fun j u hj => ?_⟩⟩
  match j, hj with
  | 0, hj => simp [cellsOf] at hj; subst hj; simp [Addr.add]
  | 1, hj => simp [cellsOf] at hj; subst hj; simp [Addr.add]
  | j + 2, hj => simp [cellsOf] at hj
theorem cat14 (W : World) (x y : List UInt8) (h : x.length + y.length ≤ 1099511627776) : (Op.stringOp .add (tx14 x) (tx14 y)).run Tryd.prog W = .ok (.string (tx14 (x ++ y))) W := add_str W x y h
theorem rtext14_calls (s : ByteArray) (w : World) (hs : s.size ≤ 65535) : Calls Tryd.prog 33 #[.string s] w (Says14 (.string (tx14 (textB s))) w) :=
  (reftext_calls s w hs).mono fun _ _ ⟨he, ht⟩ => ⟨he, still14 ht⟩
end Go.Proofs.YtacmjmfdhegojaaDoor

/-
  The laws' loop over acts: groups and the document's rows, as far as they have come. Few acts are little.
  Conditions: none.
-/
import Derived.Test.YtmjmglakpnjfkaaGroupAct
namespace Go.Proofs.Ytmjmglakpnjfkaa
open Go.RowKit Go.Maps

/-- Behind k acts: groups, the document's rows in a variable, and that they tell the same. -/
def Loop10 (w0 : World) (B Wb k : Nat) (wr : World) : Prop :=
  ∃ S N M A1 C1 A2 C2, Own10 w0 wr B S k ∧ Bx10 wr Wb (.slice A1 (List.length N) C1) (.slice A2 (List.length M) C2) ∧ NmR wr (.slice A1 (List.length N) C1) N ∧ MbR wr (.slice A2 (List.length M) C2) M ∧ Rel10 S N M ∧ List.length M ≤ k
/-- Behind one act more. -/
theorem loop10_next {w0 W w5 : World} {B Wb k : Nat} {M M' : List Who10} {S' : Grs10} {N' : List (List UInt8)} {x1 x2 : Value} {A1 A2 : Option Addr} {C1 C2 : Nat} (hx : Bx10 W Wb x1 x2) (h0 : w0.heap.size ≤ Wb) (hk : Keeps10 W w5) (ho : Own10 w0 w5 B S' (k + 1)) (hn : NmR w5 (.slice A1 N'.length C1) N') (hm : MbR w5 (.slice A2 M'.length C2) M') (hr : Rel10 S' N' M') (hl : M'.length ≤ M.length + 1) (hml : M.length ≤ k) :
    Loop10 w0 B Wb (k + 1) ((w5.setCell ⟨Wb, 0, none⟩ (.slice A1 N'.length C1)).setCell ⟨Wb, 1, none⟩ (.slice A2 M'.length C2)) := by
  have hx5 := hx.keeps hk
  have hkg : KeepG w5 ((w5.setCell ⟨Wb, 0, none⟩ (.slice A1 N'.length C1)).setCell ⟨Wb, 1, none⟩ (.slice A2 M'.length C2)) := (hx5.keep 0 _).trans ((hx5.set0 _).keep 1 _)
  exact ⟨S', N', M', A1, C1, A2, C2, (ho.cell hx5 h0 _).cell (hx5.set0 _) h0 _, (hx5.set0 _).set1 _, hn.keepG hkg, hm.keepG hkg, hr, Nat.le_trans hl (Nat.succ_le_succ hml)⟩
theorem few10_len {l : List Act7} (h : few10 l = true) : l.length ≤ 60 := by
  unfold few10 at h
  simp only [Bool.and_eq_true, decide_eq_true_eq] at h
  exact h.2
theorem few10_size {l : List Act7} (h : few10 l = true) : ∀ t ∈ l, t.nm.size ≤ 50 ∧ t.hs.size ≤ 50 := by
  unfold few10 at h
  simp only [Bool.and_eq_true] at h
  intro t ht
  have := List.all_eq_true.1 h.1 t ht
  unfold little10 at this
  simpa using this
end Go.Proofs.Ytmjmglakpnjfkaa

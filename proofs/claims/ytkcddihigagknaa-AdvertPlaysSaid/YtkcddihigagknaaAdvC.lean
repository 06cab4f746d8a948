/-
  Copy: a board apart.
  Conditions: none.
-/
import Derived.Test.YtkcddihigagknaaAdvT
import Derived.Test.YtkcddihigagknaaWriteB
namespace Go.Proofs.Ytkcddihigagknaa
open Go.RowKit

/-- A copied row, in new memory. -/
def Cl16 (w : World) (L : List UInt8) (e : Ending) (w' : World) : Prop :=
  ∃ v, e = .returned v ∧ w'.ownsRow 0 36 1 v L.length (cellsOf L) ∧ (∀ k, v.ownBlock = some k → w.heap.size ≤ k) ∧ Turns (fun _ => False) w w'
set_option maxRecDepth 100000 in
theorem clone16_calls {w : World} {B A c : Nat} {L : List UInt8} (h : Bd16 w B A c L) : Calls Try.prog 25 #[.slice (some ⟨A, 0, none⟩) L.length c] w (Cl16 w L) := by
  obtain ⟨i0, hi, hz0, hz1, hz2⟩ := info_parts infoRel
  have hlen := h.good.len
  have hsrc : Src Try.prog 1 55 (.slice (some ⟨A, 0, none⟩) L.length c) L.length (cellsOf L) (w.alloc (.cells #[] 36)) := (h.rd.still ((Turns.refl _ _).alloc _)).src Try.underlying55
  have HSRC := Lib.hid hsrc
  have hnil := fun W => Lib.run_eql_slice_nil (P := Try.prog) W 55 36 (some ⟨A, 0, none⟩) L.length c 0 0 Try.underlying55
  have hmade : (w.alloc (.cells #[] 36)).ownsRow 0 36 1 (.slice (some ⟨w.heap.size, 0, none⟩) 0 0) 0 [] := World.ownsRow_made w #[] 0 (Nat.zero_le _) (Nat.zero_le _) rfl
  have HM := Lib.hid hmade
  clear hmade hsrc h
  unfold Cl16
  generalize L.length = n at *
  generalize cellsOf L = cs at *
  go_enter Try.func25, Try.ntmps25
  go_wp2_with (at_builtin; refine wpList_append_src _ rfl (.tmp 5) (.tmp 6) 55 55 (by rfl) 36 i0 _ 1 1 Try.underlying55 hi hz0 hz1 hz2 rfl (.slice (some ⟨w.heap.size, 0, none⟩) 0 0) 0 [] (by rfl) HM.out (.slice (some ⟨A, 0, none⟩) n c) n cs (by rfl) HSRC.out (by simp only [maxLen]; omega) (by omega) ?_; intro A2 c2 w2 ho2 hg2 ha2)
  rw [Nat.zero_add] at ho2 ha2
  go_ret
  refine ⟨_, by simp, ho2, ?_, ?_⟩
  · intro k hk
    rcases ha2 with h2 | h2
    · rw [h2] at hk
      simp [Value.ownBlock] at hk
      omega
    · rw [h2] at hk
      simp at hk
      omega
  · exact ((Turns.refl _ _).alloc _).grown hg2 (fun k hk hlt => by simp [Value.ownBlock] at hk; omega)

/-- A copy. -/
def Copied16 (w : World) (L : List UInt8) (e : Ending) (w' : World) : Prop := ∃ B A c, e = .returned (.pointer (some ⟨B, 0, none⟩)) ∧ w.heap.size ≤ A ∧ w.heap.size ≤ B ∧ Below w.heap.size w w' ∧ Bd16 w' B A c L
set_option maxRecDepth 100000 in
theorem Copy16_calls {w : World} {B A c : Nat} {L : List UInt8} (h : Bd16 w B A c L) : Calls Try.prog 10 #[.pointer (some ⟨B, 0, none⟩)] w (Copied16 w L) := by
  have HC := Lib.hid (clone16_calls h)
  unfold Cl16 at HC
  have hc := h.cell
  have HG := Lib.hid h.good
  have hlen := h.good.len
  have HF : Hid (∀ w1 v, w1.ownsRow 0 36 1 v L.length (cellsOf L) → (∀ k, v.ownBlock = some k → w.heap.size ≤ k) → Turns (fun _ => False) w w1 →
      ∃ A2 c2, v = .slice (some ⟨A2, 0, none⟩) L.length c2 ∧ w.heap.size ≤ A2 ∧ Bd16 (w1.alloc (.cells #[.slice (some ⟨A2, 0, none⟩) L.length c2] 57)) w1.heap.size A2 c2 L) := fun w1 v ho hn ht => by
    obtain ⟨g, cap, rfl, _, hlt⟩ := ho.form hlen.1
    refine ⟨g, cap, rfl, hn g rfl, heap_alloc_new w1 _, ((Turns.refl (fun _ => False) w1).alloc _).owns ho (fun _ _ f => f), by omega, HG.out⟩
  have HS := Lib.hid (fun (w1 : World) (ht : Turns (fun _ => False) w w1) => ht.size)
  clear h hlen HG
  unfold Copied16
  obtain ⟨n, hn⟩ : ∃ n, n = L.length := ⟨_, rfl⟩
  rw [← hn] at hc HC HF
  clear hn
  go_enter Try.func10, Try.ntmps10
  go_wp2_with fail
  with_reducible refine HC.out.mono ?_
  rintro e w1 ⟨v, rfl, ho, hn, ht⟩
  obtain ⟨A2, c2, rfl, hA2, hbd⟩ := HF.out w1 v ho hn ht
  have HBD := Lib.hid hbd
  have HB := Lib.hid (alloc14 (still14 ht) (.cells #[.slice (some ⟨A2, 0, none⟩) n c2] 57))
  have HSZ := Lib.hid ht.size
  have HA2 := Lib.hid hA2
  clear ho hn ht hbd HC HF HS hA2
  go_wp2
  go_ret
  exact ⟨_, A2, c2, rfl, HA2.out, HSZ.out, HB.out, HBD.out⟩
end Go.Proofs.Ytkcddihigagknaa

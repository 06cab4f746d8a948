/-
  The chapter's example holds: the law's 'lives' tells true, and turns nothing that was there.
  Conditions: none.
-/
import Derived.Test.YtnfiaibfhfpmjaaFrameH
import Derived.Test.YtnfiaibfhfpmjaaTold
namespace Go.Proofs.Ytnfiaibfhfpmjaa
open Go.RowKit

theorem rd_nil (w : World) : Rd w (.slice none 0 0) [] := ⟨none, 0, rfl, fun h => absurd rfl h⟩
theorem frame_seven : (frameB 7 []).take 6 = [1, 7, 0, 0, 0, 0] := by
  have : bareB 7 [] = [1, 7, 0, 0, 0, 0] := by decide
  unfold frameB sealB
  rw [this]
  rfl
set_option maxHeartbeats 1000000 in
theorem lives3_calls (w : World) : Calls Try.prog 7 #[] w (Told2 true w) := by
  have hl := frameB_length 7 []
  have h6 := frame_seven
  have HP := Lib.hid (fun B m xi W hT (hx : xi = ((7 : Nat) : Int)) => fput_at B m xi 7 (.slice none 0 0) [] W hT (rd_nil W) hx (by omega) (by simp))
  generalize frameB 7 [] = fr at *
  have HL : Hid (fr.length = 10) := hl
  have H6 := Lib.hid h6
  clear hl h6
  go_enter Try.func7, Try.ntmps7
  go_wp2_with fail
  with_reducible refine (fnew_calls w).mono ?_
  rintro e w1 ⟨B, rfl, hB, hT1, ht1⟩
  have HT1 := Lib.hid hT1
  have HU1 := Lib.hid ht1
  clear hT1 ht1
  go_wp2_with fail
  with_reducible refine (HP.out B false _ w1 HT1.out (by simp)).mono ?_
  rintro e w2 ⟨v2, rfl, ho2, hb2, hm2⟩
  have HF : Hid (Turns (fun _ => False) w w2) := HU1.out.next hm2.2 (fun i hi hs => by omega)
  rw [HL.out] at ho2
  obtain ⟨g, cap, rfl, hg0, hcl⟩ := ho2.form (by omega)
  have hr : Rd w2 (.slice (some ⟨g, 0, none⟩) 6 cap) [1, 7, 0, 0, 0, 0] := by
    have h1 : RdC w2 (.slice (some ⟨g, 0, none⟩) 10 cap) fr := by
      have := ho2
      rw [← HL.out] at this ⊢
      exact RdC.of_own this
    obtain ⟨g', off, c, he, _, _, hg, hcell⟩ := h1.form (by intro e; have := HL.out; rw [e] at this; simp at this)
    injection he with hA _ hc
    injection hA with hA
    injection hA with hgg hoo _
    subst hgg hoo hc
    have := rd_sub (k := 0) (n := 6) (c := cap) hg hcell (by have := HL.out; omega)
    rw [List.drop_zero, H6.out] at this
    simpa using this
  have hst := hr.string (P := Try.prog) (src := 22) (dst := 9) Try.underlying22 Try.underlying5 Try.underlying9
  have hcap : 10 ≤ cap := by
    rcases ho2.2 with ⟨h, _⟩ | ⟨g', cap', cur, he, _, _, h1, _⟩
    · cases h
    · injection he with _ _ hc; omega
  have hst6 : ∀ W : World, W.heap = w2.heap → (convert 22 9 (.slice (some ⟨g, 0, none⟩) 6 cap)).run Try.prog w2 = .ok (.string ⟨#[1, 7, 0, 0, 0, 0]⟩) w2 := fun _ _ => hst
  have hst7 := hst6 w2 rfl
  clear hst hst6 hr ho2 hb2 hm2 HT1 HU1 HP HL H6 hg0 hcl
  go_wp2
  go_ret
  exact ⟨rfl, HF.out⟩
end Go.Proofs.Ytnfiaibfhfpmjaa

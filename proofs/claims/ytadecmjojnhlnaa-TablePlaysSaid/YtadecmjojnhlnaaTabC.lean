/-
  A row of a table is set; Copy.
  Conditions: each theorem's own.
-/
import Derived.Test.YtadecmjojnhlnaaTabI
import Derived.Test.YtadecmjojnhlnaaLast
namespace Go.Proofs.Ytadecmjojnhlnaa
open Go.RowKit

theorem Own15.set {w w' w3 : World} {P B : Nat} {V : Nat → R15} (h : Own15 w P B V) (hb : Below w.heap.size w w') {c : Nat} {r : R15} (hc : c < 8) (hm : May15 r) (htx : Txt15 w' r.A r.c r.ss) (hf : From15 P r.A r.ss)
    (hw : w3 = ((w'.setCell ⟨B, c * 3, none⟩ (r.cell 0)).setCell ⟨B, c * 3 + 1, none⟩ (r.cell 1)).setCell ⟨B, c * 3 + 2, none⟩ (r.cell 2)) :
    Own15 w3 P B (setT V c r) ∧ Turns (fun k => k = B) w' w3 := by
  have ht : Turns (fun k => k = B) w' w3 := by
    rw [hw]
    exact ((((Turns.refl (fun k => k = B) w').setCell (p := ⟨B, c * 3, none⟩) (fun _ => rfl) _).setCell (p := ⟨B, c * 3 + 1, none⟩) (fun _ => rfl) _).setCell (p := ⟨B, c * 3 + 2, none⟩) (fun _ => rfl) _)
  have h1 := h.later hb
  have hne : ∀ (A' : Option Addr) (ss' : List ByteArray), From15 P A' ss' → ss' ≠ [] → ∀ a, A' = some a → ¬ a.block = B := fun A' ss' hf hne a ha he => by
    have := hf hne a ha
    have := h.lt
    omega
  refine ⟨⟨h1.lt, Nat.le_trans h1.le ht.size, ?_, fun i hi => ?_, fun i hi => ?_, fun i hi => ?_⟩, ht⟩
  · rw [hw]
    exact h1.at_.set c hc r
  · unfold setT
    by_cases e1 : i = c
    · rw [if_pos e1]
      exact htx.turns ht (hne _ _ hf)
    · rw [if_neg e1]
      exact (h1.tx i hi).turns ht (hne _ _ (h1.far i hi))
  · unfold setT
    by_cases e1 : i = c
    · rw [if_pos e1]; exact hf
    · rw [if_neg e1]; exact h1.far i hi
  · unfold setT
    by_cases e1 : i = c
    · rw [if_pos e1]; exact hm
    · rw [if_neg e1]; exact h1.may i hi

/-- Copy: what each operation makes. -/
def YCp15 (C X k n e : Nat) (A : Option Addr) (m q : Nat) (ls : List ByteArray) (n0 : Nat) : Nat → Value → World → Prop
  | 0, v, _ => v = .pointer (some ⟨C, 0, none⟩)
  | 1, v, _ => v = .int .i64 k
  | 2, v, _ => v = .pointer (some ⟨X, 0, none⟩)
  | 3, v, _ => v = .int .u64 n
  | 4, v, _ => v = .pointer (some ⟨X, 1, none⟩)
  | 5, v, _ => v = .agg #[.int .i64 e, .slice A m q]
  | 6, v, W => ∃ A' c', v = .agg #[.int .i64 e, .slice A' m c'] ∧ Txt15 W A' c' ls ∧ From15 n0 A' ls
  | 7, v, W => ∃ A' c', v = .agg #[.int .u64 n, .int .i64 e, .slice A' m c'] ∧ Txt15 W A' c' ls ∧ From15 n0 A' ls
  | 8, v, _ => v = .pointer (some ⟨C, 0, none⟩)
  | 9, v, _ => v = .pointer (some ⟨C, 0, none⟩)
  | 10, v, _ => v = .pointer (some ⟨C, k * 3, none⟩)
  | _, _, _ => True
theorem YCp15_keep {C : Nat} {X : Nat} {k : Nat} {n : Nat} {e : Nat} {A : Option Addr} {m : Nat} {q : Nat} {ls : List ByteArray} {n0 : Nat} {W W' : World} (hb : Below W.heap.size W W') (j : Nat) (z : Value) (h : YCp15 C X k n e A m q ls n0 j z W) : YCp15 C X k n e A m q ls n0 j z W' := by
  match j, h with
  | 0, h => exact h
  | 1, h => exact h
  | 2, h => exact h
  | 3, h => exact h
  | 4, h => exact h
  | 5, h => exact h
  | 6, h => exact by obtain ⟨A', c', h1, h2, h3⟩ := h; exact ⟨A', c', h1, h2.later hb, h3⟩
  | 7, h => exact by obtain ⟨A', c', h1, h2, h3⟩ := h; exact ⟨A', c', h1, h2.later hb, h3⟩
  | 8, h => exact h
  | 9, h => exact h
  | 10, h => exact h
  | _ + 11, h => exact h

/-- The first rows of a copy. -/
def Cps15 (w : World) (C : Nat) (T : Nat → R15) (k : Nat) (W : World) : Prop := Below w.heap.size w W ∧ ∃ V, Own15 W (C + 1) C V ∧ ∀ i, i < 8 → i < k → (V i).p = (T i).p

set_option maxRecDepth 100000 in
set_option maxHeartbeats 4000000 in
theorem Copy15_calls {w : World} {P B : Nat} {T : Nat → R15} (h : Own15 w P B T) :
    Calls Try.prog 16 #[.pointer (some ⟨B, 0, none⟩)] w fun e w' => e = .returned (.pointer (some ⟨w.heap.size, 0, none⟩)) ∧ Cps15 w w.heap.size T 8 w' := by
  have HT := Lib.hid h
  clear h
  go_enter Try.func16, Try.ntmps16
  go_wp2_with fail
  with_reducible refine (New15_calls w).mono ?_
  rintro e w1 ⟨rfl, hw⟩
  have HX : Hid (w1.heap[B]? = some (.cells (tabA T) 66 (0, 0))) := by
    rw [hw]
    exact ((alloc14 (Below.refl _ w) _).block B HT.out.at_.lt).trans HT.out.at_
  have HC : Hid (Cps15 w w.heap.size T 0 w1) := by
    refine ⟨by rw [hw]; exact alloc14 (Below.refl _ w) _, fun _ => zero15, ?_, fun i _ hi => absurd hi (Nat.not_lt_zero _)⟩
    rw [hw]
    exact own_new15 w _ rfl
  clear hw
  go_wp2_with (with_reducible refine wpList_load_row rfl 64 (.tmp 9) rfl B rfl 66 (tabA T) (0, 0) _ HX.out Try.underlying64 rfl (by rw [tabA_size]; exact sizeRows15) ?_)
  generalize hCC : w.heap.size = C at *
  go_loopg [11] 8 (fun gg s11 wr => ∃ k : Nat, k ≤ 8 ∧ 8 - k ≤ gg ∧ s11 = .int .i64 k ∧ Hid (Cps15 w C T k wr))
  case atStart => exact ⟨0, Nat.zero_le _, by omega, rfl, HC.out⟩
  case round =>
    clear HC HX
    obtain ⟨k, hk, hg, rfl, HK⟩ := hrel
    generalize wr = wo at *
    by_cases hlt : k < 8
    case neg =>
      obtain rfl : k = 8 := by omega
      go_wp2
      go_ret
      exact ⟨by rw [hCC]; rfl, by rw [hCC]; exact HK.out⟩
    have hltz : (k : Int) < 8 := by omega
    have hi := fun W => index15_run T k hlt W
    unfold R15.v at hi
    have hm : MayP15 (T k).p := (HT.out.may k hlt).p
    have htl : tls14 (T k).e (T k).ss = (T k).ss := tls_mayP15 hm
    obtain ⟨hbo, V, hV, hVP⟩ := HK.out
    have HTX : Hid (∀ W, Below wo.heap.size wo W → Txt15 W (T k).A (T k).c (T k).ss) := fun W hW => ((HT.out.tx k hlt).later (hCC.symm ▸ hbo)).later hW
    have HCL : Hid (∀ W, Below wo.heap.size wo W → Calls Try.prog 23 #[.agg #[.int .i64 (T k).e, .slice (T k).A (T k).ss.length (T k).c]] W (Cl15 (T k).e (T k).ss W)) := fun W hW => clone15_calls _ _ _ _ W (HTX.out W hW) (by have : (T k).ss.length ≤ 10 := hm.few; omega)
    unfold Cl15 at HCL
    rw [htl] at HCL
    have HDD : Hid (∀ W W3 A' c', Below wo.heap.size wo W → Txt15 W A' c' (T k).ss → From15 wo.heap.size A' (T k).ss → W3 = ((W.setCell ⟨C, k * 3, none⟩ (.int .u64 (T k).n)).setCell ⟨C, k * 3 + 1, none⟩ (.int .i64 (T k).e)).setCell ⟨C, k * 3 + 2, none⟩ (.slice A' (T k).ss.length c') → Cps15 w C T (k + 1) W3) := fun W W3 A' c' hb ht hf hw => by
      obtain ⟨h1, h2⟩ := hV.set (r := ⟨(T k).n, (T k).e, A', c', (T k).ss⟩) hb hlt ⟨hm.n, hm.e, hm.z, hm.t, hm.few, hm.lit⟩ ht (fun hne a ha => Nat.le_trans hV.le (hf hne a ha)) hw
      refine ⟨(hbo.trans (hb.mono hbo.size)).trans (h2.below_at (Nat.le_trans hbo.size hb.size) (fun j e => by omega)), _, h1, fun i hi hik => ?_⟩
      unfold setT
      by_cases e1 : i = k
      · rw [if_pos e1, e1]; rfl
      · rw [if_neg e1]; exact hVP i hi (by omega)
    have HVA : Hid (∀ W, Below wo.heap.size wo W → Tab15 W C 66 V) := fun W hW => hV.at_.later hW
    clear hm htl hbo hV hVP HTX
    generalize (T k).n = n at *
    generalize (T k).e = e at *
    generalize (T k).A = A at *
    generalize (T k).c = q at *
    generalize (T k).ss = ss at *
    generalize ss.length = m at *
    have hRX : RowAt15 (wo.alloc (.cells #[.int .u64 n, .int .i64 e, .slice A m q] 63)) wo.heap.size n e (.slice A m q) := heap_alloc_new wo _
    have HRX := Lib.hid hRX
    have HB5 := Lib.hid (alloc14 (Below.refl _ wo) (.cells #[.int .u64 n, .int .i64 e, .slice A m q] 63))
    clear hRX
    go_wp2
    generalize wo.alloc (.cells #[.int .u64 n, .int .i64 e, .slice A m q] 63) = w5 at *
    generalize hXX : wo.heap.size = X at *
    have hXl : X < w5.heap.size := (Array.getElem?_eq_some_iff.1 HRX.out).1
    refine wp_region_last (by kernel_rfl) 11 (fun W => Below w5.heap.size w5 W) (fun W => Cps15 w C T (k + 1) W) (YCp15 C X k n e A m q ss X) (fun _ => True) ?F ?hF (by kernel_rfl) (by kernel_rfl) (by kernel_rfl) (by kernel_rfl) (by decide) (drew14 (Below.refl _ _)) ?step ?fin
    case hF =>
      intro x
      simp only [List.map_cons, List.map_nil, putL, Act.put, List.setIfInBounds_toArray, List.set_cons_zero, List.set_cons_succ, Nat.zero_add, Nat.reduceAdd]
      exact rfl
    case step =>
      refine ⟨?_, ?_, ?_, ?_, ?_, ?_, ?_, ?_, ?_, ?_, ?_, ?_, trivial⟩
      · intro x W
        refine ⟨fun _ hW hdep K hK => ?_, (fun h => absurd h (by decide)), (fun h => absurd h (by decide))⟩
        clear hdep
        go_simp
        exact hK _ _ rfl hW (fun _ _ h => h)
      · intro x W
        refine ⟨fun _ hW hdep K hK => ?_, (fun h => absurd h (by decide)), (fun h => absurd h (by decide))⟩
        clear hdep
        go_simp
        exact hK _ _ rfl hW (fun _ _ h => h)
      · intro x W
        refine ⟨fun _ hW hdep K hK => ?_, (fun h => absurd h (by decide)), (fun h => absurd h (by decide))⟩
        clear hdep
        go_simp
        exact hK _ _ rfl hW (fun _ _ h => h)
      · intro x W
        refine ⟨fun _ hW hdep K hK => ?_, (fun h => absurd h (by decide)), (fun h => absurd h (by decide))⟩
        have h2 : x 2 = _ := hdep 2 rfl
        have k3 := RowAt15.cells ((hW.block X hXl).trans HRX.out)
        obtain ⟨k0, k1, k2⟩ := k3
        clear hdep
        simp only [h2] at hK
        go_simp
        exact hK _ _ rfl hW (fun _ _ h => h)
      · intro x W
        refine ⟨fun _ hW hdep K hK => ?_, (fun h => absurd h (by decide)), (fun h => absurd h (by decide))⟩
        clear hdep
        go_simp
        exact hK _ _ rfl hW (fun _ _ h => h)
      · intro x W
        refine ⟨fun _ hW hdep K hK => ?_, (fun h => absurd h (by decide)), (fun h => absurd h (by decide))⟩
        have h4 : x 4 = _ := hdep 4 rfl
        have k3 := RowAt15.cells ((hW.block X hXl).trans HRX.out)
        obtain ⟨k0, k1, k2⟩ := k3
        clear hdep
        simp only [h4] at hK
        go_simp
        exact hK _ _ rfl hW (fun _ _ h => h)
      · intro x W
        refine ⟨fun _ hW hdep K hK => ?_, (fun h => absurd h (by decide)), (fun h => absurd h (by decide))⟩
        have h5 : x 5 = _ := hdep 5 rfl
        clear hdep
        simp only [h5] at hK
        go_simp
        refine (HCL.out W (hXX ▸ (HB5.out.trans (hW.mono (by omega))))).mono ?_
        rintro en W' ⟨A', c', rfl, ht, hf, hb⟩
        exact hK _ _ ⟨A', c', rfl, ht, fun hne a ha => Nat.le_trans (by have := hW.size; omega) (hf hne a ha)⟩ (next14 hW hb) (fun j z h => YCp15_keep hb j z h)
      · intro x W
        refine ⟨fun _ hW hdep K hK => ?_, (fun h => absurd h (by decide)), (fun h => absurd h (by decide))⟩
        have h3 : x 3 = _ := hdep 3 rfl
        obtain ⟨A', c', h6, ht, hf⟩ := hdep 6 rfl
        have HT6 := Lib.hid ht
        have HF6 := Lib.hid hf
        clear ht hf
        simp only [h6] at hK
        clear hdep
        simp only [h3] at hK
        go_simp
        exact hK _ _ ⟨A', c', rfl, HT6.out, HF6.out⟩ hW (fun _ _ h => h)
      · intro x W
        refine ⟨fun _ hW hdep K hK => ?_, (fun h => absurd h (by decide)), (fun h => absurd h (by decide))⟩
        have h0 : x 0 = _ := hdep 0 rfl
        clear hdep
        simp only [h0] at hK
        go_simp
        exact hK _ _ rfl hW (fun _ _ h => h)
      · intro x W
        refine ⟨fun _ hW hdep K hK => ?_, (fun h => absurd h (by decide)), (fun h => absurd h (by decide))⟩
        have h8 : x 8 = _ := hdep 8 rfl
        clear hdep
        simp only [h8] at hK
        go_simp
        exact hK _ _ rfl hW (fun _ _ h => h)
      · intro x W
        refine ⟨fun _ hW hdep K hK => ?_, (fun h => absurd h (by decide)), (fun h => absurd h (by decide))⟩
        have h9 : x 9 = _ := hdep 9 rfl
        have h1 : x 1 = _ := hdep 1 rfl
        have g0 : (0 : Int) ≤ k ∧ (k : Int) < 8 := by omega
        clear hdep
        simp only [h9, h1] at hK
        go_simp
        exact hK _ _ rfl hW (fun _ _ h => h)
      · intro x W
        refine ⟨(fun h => absurd h (by decide)), fun _ hW hdep K hK => ?_, (fun h => absurd h (by decide))⟩
        have h10 : x 10 = _ := hdep 10 rfl
        obtain ⟨A', c', h7, ht, hf⟩ := hdep 7 rfl
        have hbw : Below X wo W := HB5.out.trans (hW.mono (by omega))
        have ha := HVA.out W hbw
        have a0 := ha.cell k 0 hlt (by decide)
        have a1 := ha.cell k 1 hlt (by decide)
        have a2 := ha.cell k 2 hlt (by decide)
        have af := ha.free
        simp only [R15.cell, Nat.add_zero] at a0 a1 a2
        have HT7 := Lib.hid ht
        have HF7 := Lib.hid hf
        have HBW := Lib.hid hbw
        clear ht hf ha hbw
        simp only [h7] at hK
        clear hdep
        simp only [h10] at hK
        go_simp
        exact hK (.bool true) _ trivial (HDD.out W _ A' c' HBW.out HT7.out HF7.out rfl)
    case fin =>
      intro x w6 hD _
      have HD := Lib.hid hD
      clear hD
      go_wp2
      go_roundg (8 - (k + 1))
      case measure => omega
      case rel => exact ⟨k + 1, by omega, by omega, by go_num, HD.out⟩
end Go.Proofs.Ytadecmjojnhlnaa

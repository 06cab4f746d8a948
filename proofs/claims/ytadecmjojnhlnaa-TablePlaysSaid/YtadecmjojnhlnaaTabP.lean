/-
  Put of a table, and lives.
  Conditions: each theorem's own.
-/
import Derived.Test.YtadecmjojnhlnaaTabT
import Derived.Test.YtadecmjojnhlnaaLast
namespace Go.Proofs.Ytadecmjojnhlnaa
open Go.RowKit

/-- A row, plain. -/
structure P15 where
  n : Nat
  e : Nat
  ss : List ByteArray
def R15.p (r : R15) : P15 := ⟨r.n, r.e, r.ss⟩
def noP15 : P15 := ⟨0, 0, []⟩
/-- What a request is told by its verdict. -/
def errJ15 (j : Nat) : Nat := if j = 0 then 1 else if j = 3 then 0 else 12
/-- The rows behind a request. -/
def putX15 (X : Nat → P15) (c n e : Nat) (ss : List ByteArray) : Nat → P15 := fun i => if i = c ∧ J15 (X c).n c n = 3 then ⟨n, e, tls14 e ss⟩ else X i
theorem J15_three {l c n : Nat} (h : J15 l c n = 3) : c < 8 ∧ 0 < n ∧ n ≤ 1099511627776 ∧ l < n := by
  unfold J15 at h
  split at h
  · rename_i h1
    have h2 := h1.2
    unfold cnt15 at h2
    simp at h2
    split at h
    · omega
    · split at h
      · omega
      · exact ⟨h1.1, h2.1, h2.2, by omega⟩
  · omega
theorem getT_n15 {T : Nat → R15} {c n : Nat} : J15 (getT T c).n c n = J15 (T c).n c n := by
  unfold getT
  split
  · rfl
  · unfold J15
    rw [if_neg (fun h => by omega), if_neg (fun h => by omega)]

/-- What Put leaves. -/
def Did15 (w : World) (P B : Nat) (X : Nat → P15) (w' : World) : Prop := ∃ T', Own15 w' P B T' ∧ Turns (fun k => k = B) w w' ∧ ∀ i, i < 8 → (T' i).p = X i

theorem Own15.put {w w' w3 : World} {P B : Nat} {T : Nat → R15} (h : Own15 w P B T) (hb : Below w.heap.size w w') {c n e : Nat} {A : Option Addr} {q : Nat} {ss : List ByteArray} (hc : c < 8)
    (htx : Txt15 w' A q (tls14 e ss)) (hf : From15 w.heap.size A (tls14 e ss)) (he : e ≤ 18) (hn : n ≤ 1099511627776) (hn0 : 0 < n) (hl : ss.length ≤ 10 ∧ ∀ s ∈ ss, s.size ≤ 50)
    (hw : w3 = ((w'.setCell ⟨B, c * 3, none⟩ (.int .u64 n)).setCell ⟨B, c * 3 + 1, none⟩ (.int .i64 e)).setCell ⟨B, c * 3 + 2, none⟩ (.slice A (tls14 e ss).length q)) :
    Own15 w3 P B (setT T c ⟨n, e, A, q, tls14 e ss⟩) ∧ Turns (fun k => k = B) w w3 := by
  have ht : Turns (fun k => k = B) w' w3 := by
    rw [hw]
    exact ((((Turns.refl (fun k => k = B) w').setCell (p := ⟨B, c * 3, none⟩) (fun _ => rfl) _).setCell (p := ⟨B, c * 3 + 1, none⟩) (fun _ => rfl) _).setCell (p := ⟨B, c * 3 + 2, none⟩) (fun _ => rfl) _)
  have h1 := h.later hb
  have hm : May15 ⟨n, e, A, q, tls14 e ss⟩ := by
    refine ⟨hn, he, fun h => ?_, fun h => ?_, ?_, ?_⟩
    · have : n = 0 := h
      omega
    · show tls14 e ss = []
      unfold tls14
      have : e ≠ 0 := h
      rw [if_neg (by omega)]
    · show (tls14 e ss).length ≤ 10
      unfold tls14
      split
      · exact hl.1
      · exact Nat.zero_le _
    · show ∀ s ∈ tls14 e ss, s.size ≤ 50
      unfold tls14
      split
      · exact hl.2
      · intro s hs; cases hs
  have hne : ∀ (A' : Option Addr) (ss' : List ByteArray), From15 P A' ss' → ss' ≠ [] → ∀ a, A' = some a → ¬ a.block = B := fun A' ss' hf hne a ha he => by
    have := hf hne a ha
    have := h.lt
    omega
  refine ⟨⟨h1.lt, Nat.le_trans h1.le ht.size, ?_, fun i hi => ?_, fun i hi => ?_, fun i hi => ?_⟩, (Turns.of_below hb _).next ht (fun k _ hk => hk)⟩
  · rw [hw]
    exact h1.at_.set c hc ⟨n, e, A, q, tls14 e ss⟩
  · unfold setT
    by_cases e1 : i = c
    · rw [if_pos e1]
      exact htx.turns ht (hne _ _ (fun h1 a ha => Nat.le_trans h.le (hf h1 a ha)))
    · rw [if_neg e1]
      exact (h1.tx i hi).turns ht (hne _ _ (h1.far i hi))
  · unfold setT
    by_cases e1 : i = c
    · rw [if_pos e1]
      exact fun h1 a ha => Nat.le_trans h.le (hf h1 a ha)
    · rw [if_neg e1]
      exact h1.far i hi
  · unfold setT
    by_cases e1 : i = c
    · rw [if_pos e1]
      exact hm
    · rw [if_neg e1]
      exact h1.may i hi

/-- What each operation makes. -/
def YPt15 (B c n e : Nat) (A : Option Addr) (m0 q : Nat) (ls : List ByteArray) (m n0 : Nat) : Nat → Value → World → Prop
  | 0, v, _ => v = .pointer (some ⟨B, 0, none⟩)
  | 1, v, _ => v = .int .u8 c
  | 2, v, _ => v = .int .u64 n
  | 3, v, _ => v = .agg #[.int .i64 e, .slice A m0 q]
  | 4, v, W => ∃ A' c', v = .agg #[.int .i64 e, .slice A' m c'] ∧ Txt15 W A' c' ls ∧ From15 n0 A' ls
  | 5, v, W => ∃ A' c', v = .agg #[.int .u64 n, .int .i64 e, .slice A' m c'] ∧ Txt15 W A' c' ls ∧ From15 n0 A' ls
  | 6, v, _ => v = .pointer (some ⟨B, 0, none⟩)
  | 7, v, _ => v = .pointer (some ⟨B, 0, none⟩)
  | 8, v, _ => v = .pointer (some ⟨B, c * 3, none⟩)
  | _, _, _ => True
theorem YPt15_keep {B c n e : Nat} {A : Option Addr} {m0 q : Nat} {ls : List ByteArray} {m n0 : Nat} {W W' : World} (hb : Below W.heap.size W W') (j : Nat) (z : Value) (h : YPt15 B c n e A m0 q ls m n0 j z W) : YPt15 B c n e A m0 q ls m n0 j z W' := by
  match j, h with
  | 0, h => exact h
  | 1, h => exact h
  | 2, h => exact h
  | 3, h => exact h
  | 4, ⟨A', c', h1, h2, h3⟩ => exact ⟨A', c', h1, h2.later hb, h3⟩
  | 5, ⟨A', c', h1, h2, h3⟩ => exact ⟨A', c', h1, h2.later hb, h3⟩
  | 6, h => exact h
  | 7, h => exact h
  | 8, h => exact h
  | _ + 9, _ => trivial

set_option maxRecDepth 100000 in
set_option maxHeartbeats 1000000 in
theorem Put15_calls {w : World} {P B : Nat} {T : Nat → R15} (h : Own15 w P B T) (c n e : Nat) (A : Option Addr) (q : Nat) (ss : List ByteArray) (htx : Txt15 w A q ss) (he : e ≤ 18) (hl : ss.length ≤ 10 ∧ ∀ s ∈ ss, s.size ≤ 50) :
    Calls Try.prog 9 #[.pointer (some ⟨B, 0, none⟩), .int .u8 c, .int .u64 n, .agg #[.int .i64 e, .slice A ss.length q]] w fun en w' =>
      en = .returned (.int .i64 (errJ15 (J15 (T c).n c n))) ∧ Did15 w P B (putX15 (fun i => (T i).p) c n e ss) w' := by
  have HJ : Hid (∀ W, Below w.heap.size w W → Calls Try.prog 21 #[.pointer (some ⟨B, 0, none⟩), .int .u8 c, .int .u64 n] W (Says14 (.int .i64 (J15 (getT T c).n c n)) W)) := fun W hW => Judge15_calls B T c n W (h.at_.later hW)
  have HB1 := Lib.hid (alloc14 (Below.refl _ w) (.cells #[.int .i64 e, .slice A ss.length q] 34))
  rw [getT_n15] at HJ
  by_cases h3 : J15 (T c).n c n = 3
  · obtain ⟨hc, hn0, hn, _⟩ := J15_three h3
    rw [h3] at HJ ⊢
    have HD : Hid (∀ w' w3 A' q', Below w.heap.size w w' → Txt15 w' A' q' (tls14 e ss) → From15 w.heap.size A' (tls14 e ss) → w3 = ((w'.setCell ⟨B, c * 3, none⟩ (.int .u64 n)).setCell ⟨B, c * 3 + 1, none⟩ (.int .i64 e)).setCell ⟨B, c * 3 + 2, none⟩ (.slice A' (tls14 e ss).length q') → Did15 w P B (putX15 (fun i => (T i).p) c n e ss) w3) := fun w' w3 A' q' hb ht hf hw => by
      obtain ⟨h1, h2⟩ := h.put hb hc ht hf he hn hn0 hl hw
      refine ⟨_, h1, h2, fun i hi => ?_⟩
      unfold setT putX15
      by_cases e1 : i = c
      · rw [if_pos e1, if_pos ⟨e1, h3⟩]
        rfl
      · rw [if_neg e1, if_neg (fun h => e1 h.1)]
    have HC : Hid (∀ W, Below w.heap.size w W → Calls Try.prog 23 #[.agg #[.int .i64 e, .slice A ss.length q]] W (Cl15 e ss W)) := fun W hW => clone15_calls e A q ss W (htx.later hW) (by have := hl.1; omega)
    have HA : Hid (∀ W, Below w.heap.size w W → Tab15 W B 66 T) := fun W hW => h.at_.later hW
    have d8 : decide ((c : Int) < 8) = true := by simp; omega
    clear h htx he hl h3 hn0 hn
    generalize putX15 (fun i => (T i).p) c n e ss = X at *
    unfold Cl15 at HC
    generalize tls14 e ss = ls at *
    generalize ls.length = m at *
    generalize ss.length = m0 at *
    go_enter Try.func9, Try.ntmps9
    go_wp2_with fail
    have hr1 : RpAt (w.alloc (.cells #[.int .i64 e, .slice A m0 q] 34)) w.heap.size e (.slice A m0 q) := heap_alloc_new w _
    generalize w.alloc (.cells #[.int .i64 e, .slice A m0 q] 34) = w1 at *
    with_reducible refine (HJ.out _ HB1.out).mono ?_
    rintro en w2 ⟨rfl, hb⟩
    have HR2 := Lib.hid (hr1.below hb)
    have HB2 := Lib.hid (next14 HB1.out hb)
    have x0 := HR2.out.c0
    have x1 := HR2.out.c1
    clear hb HJ hr1 HB1
    go_wp2
    refine wp_region_last (by kernel_rfl) 9 (fun W => Below w2.heap.size w2 W) (fun W => Did15 w P B X W) (YPt15 B c n e A m0 q ls m w.heap.size) (fun v => True) ?F ?hF (by kernel_rfl) (by kernel_rfl) (by kernel_rfl) (by kernel_rfl) (by decide) (drew14 (Below.refl _ _)) ?step ?fin
    case hF =>
      intro x
      simp only [List.map_cons, List.map_nil, putL, Act.put, List.setIfInBounds_toArray, List.set_cons_zero, List.set_cons_succ, Nat.zero_add, Nat.reduceAdd]
      exact rfl
    case step =>
      refine ⟨?_, ?_, ?_, ?_, ?_, ?_, ?_, ?_, ?_, ?_, trivial⟩
      · intro x W
        refine ⟨fun _ hW hdep K hK => ?_, (fun h => absurd h (by decide)), (fun h => absurd h (by decide))⟩
        clear hdep
        go_simp
        exact hK _ _ rfl hW (fun _ _ h => h)
      · intro x W
        refine ⟨fun _ hW hdep K hK => ?_, (fun h => absurd h (by decide)), (fun h => absurd h (by decide))⟩
        clear hdep
        go_simp
        exact hK _ _ rfl hW (fun _ _ h => h)
      · intro x W
        refine ⟨fun _ hW hdep K hK => ?_, (fun h => absurd h (by decide)), (fun h => absurd h (by decide))⟩
        clear hdep
        go_simp
        exact hK _ _ rfl hW (fun _ _ h => h)
      · intro x W
        refine ⟨fun _ hW hdep K hK => ?_, (fun h => absurd h (by decide)), (fun h => absurd h (by decide))⟩
        have k0 := (HR2.out.below hW).c0
        have k1 := (HR2.out.below hW).c1
        clear hdep
        go_simp
        exact hK _ _ rfl hW (fun _ _ h => h)
      · intro x W
        refine ⟨fun _ hW hdep K hK => ?_, (fun h => absurd h (by decide)), (fun h => absurd h (by decide))⟩
        have h3 : x 3 = _ := hdep 3 rfl
        clear hdep
        simp only [h3] at hK
        go_simp
        refine (HC.out W (next14 HB2.out hW)).mono ?_
        rintro en W' ⟨A', c', rfl, ht, hf, hb⟩
        exact hK _ _ ⟨A', c', rfl, ht, fun hne a ha => Nat.le_trans (next14 HB2.out hW).size (hf hne a ha)⟩ (next14 hW hb) (fun j z h => YPt15_keep hb j z h)
      · intro x W
        refine ⟨fun _ hW hdep K hK => ?_, (fun h => absurd h (by decide)), (fun h => absurd h (by decide))⟩
        have h2 : x 2 = _ := hdep 2 rfl
        obtain ⟨A', c', h4, ht, hf⟩ := hdep 4 rfl
        clear hdep
        simp only [h2, h4] at hK
        go_simp
        exact hK _ _ ⟨A', c', rfl, ht, hf⟩ hW (fun _ _ h => h)
      · intro x W
        refine ⟨fun _ hW hdep K hK => ?_, (fun h => absurd h (by decide)), (fun h => absurd h (by decide))⟩
        have h0 : x 0 = _ := hdep 0 rfl
        clear hdep
        simp only [h0] at hK
        go_simp
        exact hK _ _ rfl hW (fun _ _ h => h)
      · intro x W
        refine ⟨fun _ hW hdep K hK => ?_, (fun h => absurd h (by decide)), (fun h => absurd h (by decide))⟩
        have h6 : x 6 = _ := hdep 6 rfl
        clear hdep
        simp only [h6] at hK
        go_simp
        exact hK _ _ rfl hW (fun _ _ h => h)
      · intro x W
        refine ⟨fun _ hW hdep K hK => ?_, (fun h => absurd h (by decide)), (fun h => absurd h (by decide))⟩
        have h7 : x 7 = _ := hdep 7 rfl
        have h1 : x 1 = _ := hdep 1 rfl
        clear hdep
        simp only [h7, h1] at hK
        go_simp
        rw [if_pos (show (c : Int) < 8 by omega)]
        go_simp
        exact hK _ _ rfl hW (fun _ _ h => h)
      · intro x W
        refine ⟨(fun h => absurd h (by decide)), fun _ hW hdep K hK => ?_, (fun h => absurd h (by decide))⟩
        have h8 : x 8 = _ := hdep 8 rfl
        obtain ⟨A', c', h5, ht, hf⟩ := hdep 5 rfl
        have ha := HA.out W (next14 HB2.out hW)
        have a0 := ha.cell c 0 hc (by decide)
        have a1 := ha.cell c 1 hc (by decide)
        have a2 := ha.cell c 2 hc (by decide)
        have af := ha.free
        simp only [R15.cell, Nat.add_zero] at a0 a1 a2
        have HT := Lib.hid ht
        have HF := Lib.hid hf
        clear ht hf ha
        clear hdep
        simp only [h8, h5] at hK
        go_simp
        exact hK (.bool true) _ trivial (HD.out W _ A' c' (next14 HB2.out hW) HT.out HF.out rfl)
    case fin =>
      intro x W hD _
      have HD2 := Lib.hid hD
      clear hD
      go_wp2
      go_ret
      exact ⟨rfl, HD2.out⟩
  · have hno : Hid (∀ w', Below w.heap.size w w' → Did15 w P B (putX15 (fun i => (T i).p) c n e ss) w') := fun w' hb => ⟨T, h.later hb, Turns.of_below hb _, fun i hi => by
      unfold putX15
      rw [if_neg (fun h => h3 h.2)]⟩
    clear h htx
    generalize putX15 (fun i => (T i).p) c n e ss = X at *
    unfold errJ15
    rw [if_neg h3]
    generalize hj : J15 (T c).n c n = j at *
    clear hj
    by_cases h0 : j = 0
    · subst h0
      rw [if_pos rfl]
      go_enter Try.func9, Try.ntmps9
      go_wp2_with fail
      with_reducible refine (HJ.out _ HB1.out).mono ?_
      rintro en w2 ⟨rfl, hb⟩
      have HB2 := Lib.hid (next14 HB1.out hb)
      clear hb HJ
      go_wp2
      go_ret
      exact ⟨rfl, hno.out _ HB2.out⟩
    · rw [if_neg h0]
      have d0 : ((j : Int) == 0) = false := by simp; omega
      have d3 : ((j : Int) == 3) = false := by simp; omega
      have e0 : (j == 0) = false := by simp; omega
      have e3 : (j == 3) = false := by simp; omega
      go_enter Try.func9, Try.ntmps9
      go_wp2_with fail
      with_reducible refine (HJ.out _ HB1.out).mono ?_
      rintro en w2 ⟨rfl, hb⟩
      have HB2 := Lib.hid (next14 HB1.out hb)
      clear hb HJ
      go_wp2
      go_ret
      exact ⟨rfl, hno.out _ HB2.out⟩
end Go.Proofs.Ytadecmjojnhlnaa

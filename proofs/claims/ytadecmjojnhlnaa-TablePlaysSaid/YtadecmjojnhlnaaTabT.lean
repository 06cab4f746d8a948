/-
  A table: eight rows in one block; what is known of a row; known, counted, clone, of, Last, Reply and Judge.
  Conditions: each theorem's own.
-/
import Derived.Test.YtadecmjojnhlnaaOpRep
import Derived.Test.YtadecmjojnhlnaaOpGet
import Derived.Test.YtadecmjojnhlnaaShelf
namespace Go.Proofs.Ytadecmjojnhlnaa
open Go.RowKit

/-- A client's last request: its number, and its reply: an error, texts, and where they lie. -/
structure R15 where
  n : Nat
  e : Nat
  A : Option Addr
  c : Nat
  ss : List ByteArray
def R15.cell (r : R15) : Nat → Value
  | 0 => .int .u64 r.n
  | 1 => .int .i64 r.e
  | _ => .slice r.A r.ss.length r.c
def R15.v (r : R15) : Value := .agg #[.int .u64 r.n, .int .i64 r.e, .slice r.A r.ss.length r.c]
def zero15 : R15 := ⟨0, 0, none, 0, []⟩
/-- Eight rows, as cells. -/
def tabA (T : Nat → R15) : Array Value := ((List.range 24).map fun k => (T (k / 3)).cell (k % 3)).toArray
/-- One row is another one. -/
def setT (T : Nat → R15) (i : Nat) (r : R15) : Nat → R15 := fun j => if j = i then r else T j
theorem tabA_size (T : Nat → R15) : (tabA T).size = 24 := by simp [tabA]
theorem tabA_get (T : Nat → R15) (k : Nat) (hk : k < 24) : (tabA T)[k]? = some ((T (k / 3)).cell (k % 3)) := by simp [tabA, hk]
theorem tabA_at (T : Nat → R15) (i j : Nat) (hi : i < 8) (hj : j < 3) : (tabA T)[i * 3 + j]? = some ((T i).cell j) := by
  rw [tabA_get T _ (by omega), show (i * 3 + j) / 3 = i by omega, show (i * 3 + j) % 3 = j by omega]
theorem cell_one15 (r : R15) (j : Nat) : (r.cell j).oneCell' = true := by
  unfold R15.cell
  split <;> rfl
theorem tabA_one (T : Nat → R15) : (tabA T).all (·.oneCell') = true := by
  rw [Array.all_eq_true_iff_forall_mem]
  intro v hv
  simp only [tabA, List.mem_toArray, List.mem_map] at hv
  obtain ⟨k, _, rfl⟩ := hv
  exact cell_one15 _ _
theorem tabA_congr {T U : Nat → R15} (h : ∀ i, i < 8 → T i = U i) : tabA T = tabA U := by
  unfold tabA
  congr 1
  apply List.map_congr_left
  intro k hk
  rw [h (k / 3) (by have := List.mem_range.1 hk; omega)]
theorem tabA_set (T : Nat → R15) (i : Nat) (r : R15) (hi : i < 8) :
    (((tabA T).setIfInBounds (i * 3) (r.cell 0)).setIfInBounds (i * 3 + 1) (r.cell 1)).setIfInBounds (i * 3 + 2) (r.cell 2) = tabA (setT T i r) := by
  apply Array.ext
  · simp [tabA]
  · intro k h1 h2
    have hk : k < 24 := by simpa [tabA] using h2
    have e2 : (tabA (setT T i r))[k]? = some ((setT T i r (k / 3)).cell (k % 3)) := tabA_get _ k hk
    have e1 : ((((tabA T).setIfInBounds (i * 3) (r.cell 0)).setIfInBounds (i * 3 + 1) (r.cell 1)).setIfInBounds (i * 3 + 2) (r.cell 2))[k]? = some ((setT T i r (k / 3)).cell (k % 3)) := by
      have hs := tabA_size T
      rw [Array.getElem?_setIfInBounds, Array.getElem?_setIfInBounds, Array.getElem?_setIfInBounds, tabA_get T k hk]
      simp only [Array.size_setIfInBounds, hs]
      unfold setT
      by_cases hq : k / 3 = i
      · rw [if_pos hq]
        have : k = i * 3 ∨ k = i * 3 + 1 ∨ k = i * 3 + 2 := by omega
        rcases this with rfl | rfl | rfl
        · rw [if_neg (by omega), if_neg (by omega), if_pos rfl, if_pos (by omega), show i * 3 % 3 = 0 by omega]
        · rw [if_neg (by omega), if_pos rfl, if_pos (by omega), show (i * 3 + 1) % 3 = 1 by omega]
        · rw [if_pos rfl, if_pos (by omega), show (i * 3 + 2) % 3 = 2 by omega]
      · rw [if_neg hq, if_neg (by omega), if_neg (by omega), if_neg (by omega)]
    rw [Array.getElem?_eq_getElem h1] at e1
    rw [Array.getElem?_eq_getElem h2] at e2
    exact Option.some.inj (e1.trans e2.symm)

/-- Eight rows lie at block B. -/
def Tab15 (w : World) (B : Nat) (t : TypeId) (T : Nat → R15) : Prop := w.heap[B]? = some (.cells (tabA T) t (0, 0))
section
variable {w w' : World} {B : Nat} {t : TypeId} {T : Nat → R15}
theorem Tab15.lt (h : Tab15 w B t T) : B < w.heap.size := (Array.getElem?_eq_some_iff.1 h).1
theorem Tab15.cell (h : Tab15 w B t T) (i j : Nat) (hi : i < 8) (hj : j < 3) : w.cell? ⟨B, i * 3 + j, none⟩ = some ((T i).cell j) :=
  (cell_of_row w B _ _ t (0, 0) h).trans (tabA_at T i j hi hj)
theorem Tab15.free (h : Tab15 w B t T) (i : Nat) : w.frozen? ⟨B, i, none⟩ = false := by unfold Tab15 at h; simp [World.frozen?, h]
theorem Tab15.set (h : Tab15 w B t T) (i : Nat) (_hi : i < 8) (r : R15) : Tab15 (((w.setCell ⟨B, i * 3, none⟩ (r.cell 0)).setCell ⟨B, i * 3 + 1, none⟩ (r.cell 1)).setCell ⟨B, i * 3 + 2, none⟩ (r.cell 2)) B t (setT T i r) := by
  unfold Tab15 at h ⊢
  rw [← tabA_set T i r _hi]
  simp [World.setCell, Array.getElem?_modify, h]
theorem Tab15.turns {S : Nat → Prop} (h : Tab15 w B t T) (ht : Turns S w w') (hn : ¬ S B) : Tab15 w' B t T := (ht.block B h.lt hn).trans h
theorem Tab15.later (h : Tab15 w B t T) (hb : Below w.heap.size w w') : Tab15 w' B t T := (hb.block B h.lt).trans h
end

/-- Texts in memory. -/
structure Txt15 (w : World) (A : Option Addr) (c : Nat) (ss : List ByteArray) : Prop where
  rd : RdS w A ss
  len : ss.length ≤ c
  cap : c ≤ 9223372036854775807
  nil : A = none → c = 0
theorem Txt15.later {w w' : World} {A : Option Addr} {c : Nat} {ss : List ByteArray} (h : Txt15 w A c ss) (hb : Below w.heap.size w w') : Txt15 w' A c ss := ⟨h.rd.later14 hb, h.len, h.cap, h.nil⟩
theorem Txt15.none (w : World) : Txt15 w none 0 [] := ⟨fun h => absurd rfl h, Nat.le_refl _, Nat.zero_le _, fun _ => rfl⟩
/-- Where texts lie: at no block below P. -/
def From15 (P : Nat) (A : Option Addr) (ss : List ByteArray) : Prop := ss ≠ [] → ∀ a, A = some a → P ≤ a.block

/-- What clone tells. -/
def Cl15 (e : Nat) (ss : List ByteArray) (w : World) (en : Ending) (w' : World) : Prop :=
  ∃ A c, en = .returned (.agg #[.int .i64 e, .slice A (tls14 e ss).length c]) ∧ Txt15 w' A c (tls14 e ss) ∧ From15 w.heap.size A (tls14 e ss) ∧ Below w.heap.size w w'

set_option maxRecDepth 100000 in
theorem known15_calls (c : Nat) (w : World) : Calls Try.prog 34 #[.int .u8 c] w fun e w' => e = .returned (.bool (decide (c < 8))) ∧ w = w' := by
  have d : decide ((c : Int) < 8) = decide (c < 8) := by simp; omega
  generalize decide (c < 8) = b at *
  go_enter Try.func34, Try.ntmps34
  go_wp2
  go_ret
  exact ⟨rfl, rfl⟩
/-- May a request have that number? -/
def cnt15 (n : Nat) : Bool := decide (0 < n) && decide (n ≤ 1099511627776)
set_option maxRecDepth 100000 in
theorem counted15_calls (n : Nat) (w : World) : Calls Try.prog 35 #[.int .u64 n] w fun e w' => e = .returned (.bool (cnt15 n)) ∧ w = w' := by
  by_cases h0 : 0 < n
  · have d0 : decide ((n : Int) > 0) = true := by simp; omega
    have d1 : decide ((n : Int) ≤ 1099511627776) = cnt15 n := by unfold cnt15; simp [h0]; omega
    generalize cnt15 n = b at *
    go_enter Try.func35, Try.ntmps35
    go_wp2
    go_ret
    exact ⟨rfl, rfl⟩
  · have d0 : decide ((n : Int) > 0) = false := by simp; omega
    have e : cnt15 n = false := by unfold cnt15; simp [h0]
    rw [e]
    clear e
    go_enter Try.func35, Try.ntmps35
    go_wp2
    go_ret
    exact ⟨rfl, rfl⟩

/-- A client's row; one that there isn't has nothing. -/
def getT (T : Nat → R15) (c : Nat) : R15 := if c < 8 then T c else zero15
theorem sizeRow15 : (Try.prog.info? 63).map (·.size) = some 3 := by kernel_rfl
set_option maxRecDepth 100000 in
theorem of15_calls (B : Nat) (T : Nat → R15) (c : Nat) (w : World) (h : Tab15 w B 66 T) : Calls Try.prog 24 #[.pointer (some ⟨B, 0, none⟩), .int .u8 c] w (Says14 (getT T c).v w) := by
  have HK := Lib.hid (known15_calls c w)
  unfold getT R15.v
  by_cases hc : c < 8
  · rw [if_pos hc]
    rw [decide_eq_true hc] at HK
    have c0 := h.cell c 0 hc (by decide)
    have c1 := h.cell c 1 hc (by decide)
    have c2 := h.cell c 2 hc (by decide)
    simp only [R15.cell, Nat.add_zero] at c0 c1 c2
    have d8 : decide ((c : Int) < 8) = true := by simp; omega
    have hlt := h.lt
    clear h
    generalize (T c).ss.length = m at *
    generalize (T c).A = A at *
    generalize (T c).n = n at *
    generalize (T c).e = e at *
    generalize (T c).c = q at *
    go_enter Try.func24, Try.ntmps24
    go_wp2_with (go_at_call 34; (with_reducible refine HK.out.mono ?_); rintro e w2 ⟨rfl, rfl⟩)
    go_wp2
    exact bodyPost_ret (results_cell_row Try.results24 _ _ w.heap.size _ #[.int .u64 n, .int .i64 e, .slice A m q] (0, 0) _ rfl (heap_alloc_new w _) Try.underlying63 rfl sizeRow15) rfl ⟨rfl, (Below.refl _ w).alloc (Nat.le_refl _) _⟩
  · rw [if_neg hc]
    rw [decide_eq_false hc] at HK
    have d8 : decide ((c : Int) < 8) = false := by simp; omega
    clear h hc
    unfold zero15
    go_enter Try.func24, Try.ntmps24
    go_wp2_with (go_at_call 34; (with_reducible refine HK.out.mono ?_); rintro e w2 ⟨rfl, rfl⟩)
    go_wp2
    exact bodyPost_ret (results_cell_row Try.results24 _ _ w.heap.size _ #[.int .u64 0, .int .i64 0, .slice none 0 0] (0, 0) _ rfl (heap_alloc_new w _) Try.underlying63 rfl sizeRow15) rfl ⟨rfl, (Below.refl _ w).alloc (Nat.le_refl _) _⟩

theorem fieldN15 (n e : Int) (v : Value) (w : World) : (Instr.field 63 (.agg #[.int .u64 n, .int .i64 e, v]) 0).run Try.prog w = .ok (.int .u64 n) w := by kernel_rfl
theorem fieldR15 (n e : Int) (v : Value) (w : World) : (Instr.field 63 (.agg #[.int .u64 n, .int .i64 e, v]) 1).run Try.prog w = .ok (.agg #[.int .i64 e, v]) w := by kernel_rfl
set_option maxRecDepth 100000 in
theorem Last15_calls (B : Nat) (T : Nat → R15) (c : Nat) (w : World) (h : Tab15 w B 66 T) : Calls Try.prog 11 #[.pointer (some ⟨B, 0, none⟩), .int .u8 c] w (Says14 (.int .u64 (getT T c).n) w) := by
  have HO := Lib.hid (of15_calls B T c w h)
  clear h
  unfold R15.v at HO
  generalize (getT T c).ss.length = m at *
  generalize (getT T c).A = A at *
  generalize (getT T c).n = n at *
  generalize (getT T c).e = e at *
  generalize (getT T c).c = q at *
  have hf := fun W => fieldN15 n e (.slice A m q) W
  go_enter Try.func11, Try.ntmps11
  go_wp2_with (go_at_call 24; (with_reducible refine HO.out.mono ?_); rintro e w2 ⟨rfl, hb⟩; have HB := Lib.hid hb; clear hb)
  go_wp2
  go_ret
  exact ⟨rfl, HB.out⟩

/-- What a request's number says: 0 none, 1 stale, 2 again, 3 next. -/
def J15 (last c n : Nat) : Nat := if c < 8 ∧ cnt15 n = true then (if n < last then 1 else if n = last then 2 else 3) else 0
set_option maxRecDepth 100000 in
theorem Judge15_calls (B : Nat) (T : Nat → R15) (c n : Nat) (w : World) (h : Tab15 w B 66 T) : Calls Try.prog 21 #[.pointer (some ⟨B, 0, none⟩), .int .u8 c, .int .u64 n] w (Says14 (.int .i64 (J15 (getT T c).n c n)) w) := by
  have HL := Lib.hid (Last15_calls B T c w h)
  have HK := Lib.hid (fun W => known15_calls c W)
  have HC := Lib.hid (fun W => counted15_calls n W)
  clear h
  unfold J15
  generalize (getT T c).n = l at *
  by_cases hc : c < 8
  case neg =>
    rw [if_neg (fun h => hc h.1)]
    rw [decide_eq_false hc] at HK
    clear hc
    go_enter Try.func21, Try.ntmps21
    go_wp2_with (first
      | (go_at_call 11; (with_reducible refine HL.out.mono ?_); rintro e w2 ⟨rfl, hb⟩; have HB := Lib.hid hb; clear hb)
      | (go_at_call 34; (with_reducible refine (HK.out _).mono ?_); rintro e w3 ⟨rfl, rfl⟩))
    go_wp2
    go_ret
    exact ⟨rfl, HB.out⟩
  rw [decide_eq_true hc] at HK
  cases hn : cnt15 n with
  | false =>
    rw [if_neg (by simp)]
    rw [hn] at HC
    clear hc hn
    go_enter Try.func21, Try.ntmps21
    go_wp2_with (first
      | (go_at_call 11; (with_reducible refine HL.out.mono ?_); rintro e w2 ⟨rfl, hb⟩; have HB := Lib.hid hb; clear hb)
      | (go_at_call 34; (with_reducible refine (HK.out _).mono ?_); rintro e w3 ⟨rfl, rfl⟩)
      | (go_at_call 35; (with_reducible refine (HC.out _).mono ?_); rintro e w3 ⟨rfl, rfl⟩))
    go_wp2
    go_ret
    exact ⟨rfl, HB.out⟩
  | true =>
    rw [if_pos ⟨hc, rfl⟩]
    rw [hn] at HC
    clear hc hn
    by_cases h1 : n < l
    · rw [if_pos h1]
      have d1 : decide ((n : Int) < l) = true := by simp; omega
      have e1 : decide (n < l) = true := by simp; omega
      clear h1
      go_enter Try.func21, Try.ntmps21
      go_wp2_with (first
        | (go_at_call 11; (with_reducible refine HL.out.mono ?_); rintro e w2 ⟨rfl, hb⟩; have HB := Lib.hid hb; clear hb)
        | (go_at_call 34; (with_reducible refine (HK.out _).mono ?_); rintro e w3 ⟨rfl, rfl⟩)
        | (go_at_call 35; (with_reducible refine (HC.out _).mono ?_); rintro e w3 ⟨rfl, rfl⟩))
      go_wp2
      go_ret
      exact ⟨rfl, HB.out⟩
    · rw [if_neg h1]
      have d1 : decide ((n : Int) < l) = false := by simp; omega
      have e1 : decide (n < l) = false := by simp; omega
      by_cases h2 : n = l
      · rw [if_pos h2]
        subst h2
        have d2 : ((n : Int) == n) = true := by simp
        clear h1
        go_enter Try.func21, Try.ntmps21
        go_wp2_with (first
          | (go_at_call 11; (with_reducible refine HL.out.mono ?_); rintro e w2 ⟨rfl, hb⟩; have HB := Lib.hid hb; clear hb)
          | (go_at_call 34; (with_reducible refine (HK.out _).mono ?_); rintro e w3 ⟨rfl, rfl⟩)
          | (go_at_call 35; (with_reducible refine (HC.out _).mono ?_); rintro e w3 ⟨rfl, rfl⟩))
        go_wp2
        go_ret
        exact ⟨rfl, HB.out⟩
      · rw [if_neg h2]
        have d2 : ((n : Int) == l) = false := by simp; omega
        have e2 : (n == l) = false := by simp; omega
        have e3 : decide (n = l) = false := by simp; omega
        clear h1 h2
        go_enter Try.func21, Try.ntmps21
        go_wp2_with (first
          | (go_at_call 11; (with_reducible refine HL.out.mono ?_); rintro e w2 ⟨rfl, hb⟩; have HB := Lib.hid hb; clear hb)
          | (go_at_call 34; (with_reducible refine (HK.out _).mono ?_); rintro e w3 ⟨rfl, rfl⟩)
          | (go_at_call 35; (with_reducible refine (HC.out _).mono ?_); rintro e w3 ⟨rfl, rfl⟩))
        go_wp2
        go_ret
        exact ⟨rfl, HB.out⟩

/-! ### clone -/
theorem rds_cells15 {ss : List ByteArray} {b off : Nat} {w : World} (h : ∀ j (hj : j < ss.length), w.cell? ⟨b, off + j, none⟩ = some (.string ss[j])) (j : Nat) (hj : j < ss.length) : w.cell? ⟨b, off + j, none⟩ = some (.string (ss.getD j ByteArray.empty)) := by
  rw [h j hj]
  simp [List.getD_eq_getElem?_getD, hj]
theorem sclone15_calls (A : Option Addr) (c : Nat) (ss : List ByteArray) (w : World) (h : Txt15 w A c ss) (hb : ss.length ≤ 1000) :
    Calls Try.prog 36 #[.slice A ss.length c] w fun e w' => ∃ A' c', e = .returned (.slice A' ss.length c') ∧ Txt15 w' A' c' ss ∧ From15 w.heap.size A' ss ∧ Below w.heap.size w w' := by
  have hown : ∀ (v' : Value) (w' : World), w'.ownsRow w.heap.size 9 1 v' ss.length (ss.map Value.string) → ∃ A' c', v' = .slice A' ss.length c' ∧ Txt15 w' A' c' ss ∧ From15 w.heap.size A' ss := by
    intro v' w' ho
    have h0 : w'.ownsRow 0 9 1 v' ss.length (ss.map Value.string) := by
      refine ⟨ho.1, ?_⟩
      rcases ho.2 with h0 | ⟨g, cap, cur, e, hg, r⟩
      · exact .inl h0
      · exact .inr ⟨g, cap, cur, e, Nat.zero_le _, r⟩
    obtain ⟨A', c', rfl⟩ := owns_shape h0
    have hc := cap_own14 h0
    refine ⟨A', c', rfl, ⟨rds_of_own h0, hc.1, hc.2, fun hA => ?_⟩, fun hne a ha => ?_⟩
    · rcases ho.2 with ⟨e, _⟩ | ⟨g, cap, cur, e, _⟩
      · injection e
      · injection e with e
        rw [hA] at e; cases e
    · rcases ho.2 with ⟨e, hn⟩ | ⟨g, cap, cur, e, hg, _⟩
      · exact absurd (by simpa using hn) hne
      · injection e with e
        rw [ha] at e
        injection e with e
        subst e
        exact hg
  cases A with
  | none =>
    have h0 : ss = [] := by
      by_cases h0 : ss = []
      · exact h0
      · obtain ⟨_, _, e, _⟩ := h.rd h0
        cases e
    subst h0
    exact (Try.slices_Clone_string_nil 0 c w).mono fun e w' ⟨he, hw⟩ => by
      subst hw
      exact ⟨none, 0, he, Txt15.none _, fun h => absurd rfl h, Below.refl _ _⟩
  | some a =>
    by_cases h0 : ss = []
    · subst h0
      exact (Try.slices_Clone_string_zero a c w).mono fun e w' ⟨v', he, ho, _, hb⟩ => by
        obtain ⟨A', c', rfl, h1, h2⟩ := hown v' w' ho
        exact ⟨A', c', he, h1, h2, hb⟩
    · obtain ⟨b, off, e, _, hcell⟩ := h.rd h0
      injection e with e
      subst e
      have := Try.slices_Clone_string b off ss.length c ss w (Nat.le_refl _) (by omega) (rds_cells15 hcell)
      rw [List.take_length] at this
      exact this.mono fun e w' ⟨v', he, ho, _, hb⟩ => by
        obtain ⟨A', c', rfl, h1, h2⟩ := hown v' w' ho
        exact ⟨A', c', he, h1, h2, hb⟩

set_option maxRecDepth 100000 in
theorem clone15_calls (e : Nat) (A : Option Addr) (c : Nat) (ss : List ByteArray) (w : World) (h : Txt15 w A c ss) (hb : ss.length ≤ 1000) :
    Calls Try.prog 23 #[.agg #[.int .i64 e, .slice A ss.length c]] w (Cl15 e ss w) := by
  unfold Cl15
  by_cases he : e = 0
  · have ht : tls14 e ss = ss := by unfold tls14; rw [if_pos (by omega)]
    rw [ht]
    subst he
    have HC : Hid (∀ W, Below w.heap.size w W → Calls Try.prog 36 #[.slice A ss.length c] W fun e w' => ∃ A' c', e = .returned (.slice A' ss.length c') ∧ Txt15 w' A' c' ss ∧ From15 W.heap.size A' ss ∧ Below W.heap.size W w') := fun W hW => sclone15_calls A c ss W (h.later hW) hb
    clear h hb ht
    have hb1 := alloc14 (Below.refl _ w) (.cells #[.int .i64 0, .slice A ss.length c] 34)
    generalize hm : ss.length = m at *
    clear hm
    have hb2 := alloc14 hb1 (.cells #[.int .i64 0, .slice none 0 0] 34)
    have hr2 : RpAt ((w.alloc (.cells #[.int .i64 0, .slice A m c] 34)).alloc (.cells #[.int .i64 0, .slice none 0 0] 34)) (w.heap.size + 1) 0 (.slice none 0 0) := heap_alloc2_new w _ _
    have hs2 : ((w.alloc (.cells #[.int .i64 0, .slice A m c] 34)).alloc (.cells #[.int .i64 0, .slice none 0 0] 34)).heap.size = w.heap.size + 2 := by simp
    have HB2 := Lib.hid hb2
    have HR2 := Lib.hid hr2
    have HS2 := Lib.hid hs2
    clear hb1 hb2 hr2 hs2
    go_enter Try.func23, Try.ntmps23
    go_wp2_with fail
    generalize (w.alloc (.cells #[.int .i64 0, .slice A m c] 34)).alloc (.cells #[.int .i64 0, .slice none 0 0] 34) = w2 at *
    with_reducible refine (HC.out _ HB2.out).mono ?_
    rintro e w3 ⟨A', c', rfl, ht, hf, hb⟩
    have hr3 := HR2.out.below hb
    have x0 := hr3.c0
    have x1 := hr3.c1
    have xf := hr3.fr
    have HR3 := Lib.hid hr3
    have HT : Hid (Txt15 ((w3.setCell ⟨w.heap.size + 1, 0, none⟩ (.int .i64 0)).setCell ⟨w.heap.size + 1, 1, none⟩ (.slice A' m c')) A' c' ss) := by
      refine ⟨ht.rd.turns (((Turns.refl (fun i => i = w.heap.size + 1) w3).setCell (p := ⟨w.heap.size + 1, 0, none⟩) (fun _ => rfl) _).setCell (p := ⟨w.heap.size + 1, 1, none⟩) (fun _ => rfl) _) (fun hne a ha he => ?_), ht.len, ht.cap, ht.nil⟩
      have := hf hne a ha
      have := HS2.out
      omega
    have HF : Hid (From15 w.heap.size A' ss) := fun hne a ha => by have := hf hne a ha; have := HS2.out; omega
    have HB3 := Lib.hid (next14 HB2.out hb)
    clear ht hf hb hr3 HR2 HC HB2
    go_wp2
    exact bodyPost_ret (results_cell_row Try.results23 _ _ (w.heap.size + 1) _ _ (0, 0) _ rfl (HR3.out.setAll 0 (.slice A' m c')) Try.underlying34 rfl sizeRp14) rfl
      ⟨A', c', rfl, HT.out, HF.out, (HB3.out.setCell (Nat.le_succ _) _).setCell (Nat.le_succ _) _⟩
  · have ht : tls14 e ss = [] := by unfold tls14; rw [if_neg (by omega)]
    rw [ht]
    have hd : ((e : Int) != 0) = true := by simp; omega
    clear h hb ht he
    generalize ss.length = m at *
    have hr2 : RpAt ((w.alloc (.cells #[.int .i64 e, .slice A m c] 34)).alloc (.cells #[.int .i64 e, .slice none 0 0] 34)) (w.heap.size + 1) e (.slice none 0 0) := heap_alloc2_new w _ _
    have HR2 := Lib.hid hr2
    clear hr2
    go_enter Try.func23, Try.ntmps23
    go_wp2
    exact bodyPost_ret (results_cell_row Try.results23 _ _ (w.heap.size + 1) _ _ (0, 0) _ rfl HR2.out Try.underlying34 rfl sizeRp14) rfl
      ⟨none, 0, rfl, Txt15.none _, fun h => absurd rfl h, alloc14 (alloc14 (Below.refl _ w) _) _⟩

/-! ### A table of one's own -/
/-- What may be a row: of number 0 nothing, with an error no texts. -/
structure May15 (r : R15) : Prop where
  n : r.n ≤ 1099511627776
  e : r.e ≤ 18
  z : r.n = 0 → r.e = 0 ∧ r.ss = []
  t : r.e ≠ 0 → r.ss = []
  few : r.ss.length ≤ 10
  lit : ∀ s ∈ r.ss, s.size ≤ 50
theorem may_zero15 : May15 zero15 := ⟨Nat.zero_le _, Nat.zero_le _, fun _ => ⟨rfl, rfl⟩, fun h => absurd rfl h, Nat.zero_le _, fun s hs => by cases hs⟩
/-- A table at block B, whose texts lie at no block below P. -/
structure Own15 (w : World) (P B : Nat) (T : Nat → R15) : Prop where
  lt : B < P
  le : P ≤ w.heap.size
  at_ : Tab15 w B 66 T
  tx : ∀ i, i < 8 → Txt15 w (T i).A (T i).c (T i).ss
  far : ∀ i, i < 8 → From15 P (T i).A (T i).ss
  may : ∀ i, i < 8 → May15 (T i)
section
variable {w w' : World} {P B : Nat} {T : Nat → R15}
theorem Txt15.turns {A : Option Addr} {c : Nat} {ss : List ByteArray} {S : Nat → Prop} (h : Txt15 w A c ss) (ht : Turns S w w') (hn : ss ≠ [] → ∀ a, A = some a → ¬ S a.block) : Txt15 w' A c ss := ⟨h.rd.turns ht hn, h.len, h.cap, h.nil⟩
theorem Own15.turns {S : Nat → Prop} (h : Own15 w P B T) (ht : Turns S w w') (hB : ¬ S B) (hP : ∀ k, P ≤ k → ¬ S k) : Own15 w' P B T :=
  ⟨h.lt, Nat.le_trans h.le ht.size, h.at_.turns ht hB, fun i hi => (h.tx i hi).turns ht (fun hne a ha => hP _ (h.far i hi hne a ha)), h.far, h.may⟩
theorem Own15.later (h : Own15 w P B T) (hb : Below w.heap.size w w') : Own15 w' P B T := h.turns (turns14 hb) (fun f => f) (fun _ _ f => f)
theorem Own15.get (h : Own15 w P B T) (c : Nat) : Txt15 w (getT T c).A (getT T c).c (getT T c).ss ∧ From15 P (getT T c).A (getT T c).ss ∧ May15 (getT T c) := by
  unfold getT
  split
  · exact ⟨h.tx c (by assumption), h.far c (by assumption), h.may c (by assumption)⟩
  · exact ⟨Txt15.none _, fun h => absurd rfl h, may_zero15⟩
theorem tls_may15 {r : R15} (h : May15 r) : tls14 r.e r.ss = r.ss := by
  unfold tls14
  by_cases he : r.e = 0
  · rw [if_pos (by omega)]
  · rw [if_neg (by omega), h.t he]
set_option maxRecDepth 100000 in
theorem Reply15_calls (h : Own15 w P B T) (c : Nat) : Calls Try.prog 13 #[.pointer (some ⟨B, 0, none⟩), .int .u8 c] w fun e w' =>
    ∃ A q, e = .returned (.agg #[.int .i64 (getT T c).e, .slice A (getT T c).ss.length q]) ∧ Txt15 w' A q (getT T c).ss ∧ Below w.heap.size w w' := by
  have HO : Hid (∀ W, Below w.heap.size w W → Calls Try.prog 24 #[.pointer (some ⟨B, 0, none⟩), .int .u8 c] W (Says14 (getT T c).v W)) := fun W hW => of15_calls B T c W (h.at_.later hW)
  obtain ⟨htx, _, hm⟩ := h.get c
  have ht := tls_may15 hm
  have HC : Hid (∀ W, Below w.heap.size w W → Calls Try.prog 23 #[.agg #[.int .i64 (getT T c).e, .slice (getT T c).A (getT T c).ss.length (getT T c).c]] W (Cl15 (getT T c).e (getT T c).ss W)) := fun W hW => clone15_calls _ _ _ _ W (htx.later hW) (by have := hm.few; omega)
  unfold Cl15 at HC
  rw [ht] at HC
  clear h htx hm ht
  unfold R15.v at HO
  generalize (getT T c).ss = ss at *
  generalize ss.length = m at *
  generalize (getT T c).A = A at *
  generalize (getT T c).n = n at *
  generalize (getT T c).e = e at *
  generalize (getT T c).c = q at *
  have hf := fun W => fieldR15 n e (.slice A m q) W
  have hb1 := alloc14 (Below.refl _ w) (.cells #[.int .i64 0, .slice none 0 0] 34)
  have hr1 : RpAt (w.alloc (.cells #[.int .i64 0, .slice none 0 0] 34)) w.heap.size 0 (.slice none 0 0) := heap_alloc_new w _
  have HB1 := Lib.hid hb1
  have HR1 := Lib.hid hr1
  clear hb1 hr1
  go_enter Try.func13, Try.ntmps13
  go_wp2_with fail
  have hs1 : (w.alloc (.cells #[.int .i64 0, .slice none 0 0] 34)).heap.size = w.heap.size + 1 := by simp
  have HS1 := Lib.hid hs1
  clear hs1
  generalize w.alloc (.cells #[.int .i64 0, .slice none 0 0] 34) = w1 at *
  with_reducible refine (HO.out _ HB1.out).mono ?_
  rintro e w2 ⟨rfl, hb⟩
  have HR2 := Lib.hid (HR1.out.below hb)
  have HB2 := Lib.hid (next14 HB1.out hb)
  clear hb HB1 HR1 HO
  go_wp2_with fail
  with_reducible refine (HC.out _ HB2.out).mono ?_
  rintro e w3 ⟨A', c', rfl, ht, hf3, hb⟩
  have hr3 := HR2.out.below hb
  have x0 := hr3.c0
  have x1 := hr3.c1
  have xf := hr3.fr
  have HR3 := Lib.hid hr3
  have hlt : w.heap.size < w2.heap.size := HR2.out.lt
  have HT : Hid (Txt15 ((w3.setCell ⟨w.heap.size, 0, none⟩ (.int .i64 e)).setCell ⟨w.heap.size, 1, none⟩ (.slice A' m c')) A' c' ss) := by
    refine ⟨ht.rd.turns (((Turns.refl (fun i => i = w.heap.size) w3).setCell (p := ⟨w.heap.size, 0, none⟩) (fun _ => rfl) _).setCell (p := ⟨w.heap.size, 1, none⟩) (fun _ => rfl) _) (fun hne a ha he => ?_), ht.len, ht.cap, ht.nil⟩
    have := hf3 hne a ha
    omega
  have HB3 := Lib.hid (next14 HB2.out hb)
  clear ht hf3 hb hr3 HR2 HC HB2
  go_wp2
  exact bodyPost_ret (results_cell_row Try.results13 _ _ w.heap.size _ _ (0, 0) _ rfl (HR3.out.setAll e (.slice A' m c')) Try.underlying34 rfl sizeRp14) rfl
    ⟨A', c', rfl, HT.out, (HB3.out.setCell (Nat.le_refl _) _).setCell (Nat.le_refl _) _⟩
end
end Go.Proofs.Ytadecmjojnhlnaa

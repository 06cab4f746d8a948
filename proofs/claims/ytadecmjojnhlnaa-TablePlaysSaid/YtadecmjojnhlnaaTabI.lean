/-
  Tables have the same bytes just if they are the same, plain.
  Conditions: each theorem's own.
-/
import Derived.Test.YtadecmjojnhlnaaTabB
namespace Go.Proofs.Ytadecmjojnhlnaa
open Go.RowKit

theorem tx_inj15 {a b : List UInt8} (h : tx14 a = tx14 b) : a = b := by
  have := congrArg (fun s : ByteArray => s.data.toList) h
  simpa [tx14] using this
theorem rowB_inj15 {p q : P15} {r s : List UInt8} (hp : MayP15 p) (hq : MayP15 q) (h : rowB15 p ++ r = rowB15 q ++ s) : p = q ∧ r = s := by
  unfold rowB15 at h
  rw [List.append_assoc, List.append_assoc] at h
  have h1 := congrArg (fun l : List UInt8 => numS ⟨l, 0⟩ 8) h
  simp only [numS_put14] at h1
  have hn : p.n = q.n := by
    have h2 := (Prod.mk.inj h1).2
    rw [Nat.mod_eq_of_lt (by have := hp.n; omega), Nat.mod_eq_of_lt (by have := hq.n; omega)] at h2
    exact h2
  have hr : (if 0 < p.n then textB (tx14 (repB14 p.e p.ss)) else []) ++ r = (if 0 < q.n then textB (tx14 (repB14 q.e q.ss)) else []) ++ s := by
    have h2 := (Prod.mk.inj h1).1
    injection h2
  rw [hn] at hr
  by_cases h0 : 0 < q.n
  · rw [if_pos h0, if_pos h0] at hr
    have l1 := repB_len15 hp
    have l2 := repB_len15 hq
    have h3 : textS ⟨textB (tx14 (repB14 p.e p.ss)) ++ r, 0⟩ 65535 = textS ⟨textB (tx14 (repB14 q.e q.ss)) ++ s, 0⟩ 65535 := by rw [hr]
    rw [textS_put14 _ _ _ (by rw [tx14_size]; omega) (by rw [tx14_size]; omega), textS_put14 _ _ _ (by rw [tx14_size]; omega) (by rw [tx14_size]; omega)] at h3
    have h4 := (Prod.mk.inj h3).1
    injection h4 with h4
    have h5 : repB14 p.e p.ss = repB14 q.e q.ss := by
      have := (Prod.mk.inj h3).2
      simpa [tx14] using this
    obtain ⟨_, e1, e2⟩ := gback14 hp.e hp.few hp.lit
    obtain ⟨_, f1, f2⟩ := gback14 hq.e hq.few hq.lit
    rw [h5, f1] at e1
    rw [h5, f2, tls_mayP15 hp, tls_mayP15 hq] at e2
    refine ⟨?_, h4⟩
    obtain ⟨pn, pe, ps⟩ := p
    obtain ⟨qn, qe, qs⟩ := q
    dsimp only at *
    rw [hn, e1, e2]
  · rw [if_neg h0, if_neg h0, List.nil_append, List.nil_append] at hr
    refine ⟨?_, hr⟩
    obtain ⟨a1, a2⟩ := hp.z (by omega)
    obtain ⟨b1, b2⟩ := hq.z (by omega)
    obtain ⟨pn, pe, ps⟩ := p
    obtain ⟨qn, qe, qs⟩ := q
    dsimp only at *
    rw [hn, a1, a2, b1, b2]
theorem rowsB_inj15 {X Y : Nat → P15} : ∀ (l : List Nat) (r s : List UInt8), (∀ i ∈ l, MayP15 (X i) ∧ MayP15 (Y i)) → l.flatMap (fun i => rowB15 (X i)) ++ r = l.flatMap (fun i => rowB15 (Y i)) ++ s → (∀ i ∈ l, X i = Y i) ∧ r = s
  | [], r, s, _, h => ⟨fun i hi => (by cases hi), by simpa using h⟩
  | a :: l, r, s, hm, h => by
    rw [List.flatMap_cons, List.flatMap_cons, List.append_assoc, List.append_assoc] at h
    have ha := hm a (List.mem_cons_self ..)
    obtain ⟨h1, h2⟩ := rowB_inj15 ha.1 ha.2 h
    obtain ⟨h3, h4⟩ := rowsB_inj15 l r s (fun i hi => hm i (List.mem_cons_of_mem _ hi)) h2
    refine ⟨fun i hi => ?_, h4⟩
    rcases List.mem_cons.1 hi with rfl | hi
    · exact h1
    · exact h3 i hi
/-- Is one row the same? -/
def one15 (p q : P15) : Bool := decide (p.n = q.n) && sam14 p.e p.ss q.e q.ss
theorem one15_iff {p q : P15} (hp : MayP15 p) (hq : MayP15 q) : one15 p q = true ↔ p = q := by
  unfold one15 sam14
  rw [tls_mayP15 hp, tls_mayP15 hq]
  simp only [Bool.and_eq_true, decide_eq_true_eq]
  constructor
  · rintro ⟨h1, h2, h3⟩
    obtain ⟨pn, pe, ps⟩ := p
    obtain ⟨qn, qe, qs⟩ := q
    dsimp only at *
    rw [h1, h3, show pe = qe by omega]
  · rintro rfl
    exact ⟨rfl, rfl, rfl⟩
/-- Are the first rows the same? -/
def sameB15 (X Y : Nat → P15) (k : Nat) : Bool := (List.range k).all fun i => one15 (X i) (Y i)
theorem sameB15_succ (X Y : Nat → P15) (k : Nat) : sameB15 X Y (k + 1) = (sameB15 X Y k && one15 (X k) (Y k)) := by
  unfold sameB15
  rw [List.range_succ, List.all_append]
  simp
theorem tabB_same15 {X Y : Nat → P15} (hX : ∀ i, i < 8 → MayP15 (X i)) (hY : ∀ i, i < 8 → MayP15 (Y i)) : decide (tx14 (tabB15 X) = tx14 (tabB15 Y)) = sameB15 X Y 8 := by
  rw [Bool.eq_iff_iff, decide_eq_true_eq]
  unfold sameB15
  rw [List.all_eq_true]
  constructor
  · intro h i hi
    have h1 := tx_inj15 h
    unfold tabB15 rowsB15 at h1
    have h2 := (rowsB_inj15 (List.range 8) [] [] (fun i hi => ⟨hX i (List.mem_range.1 hi), hY i (List.mem_range.1 hi)⟩) (by rw [List.append_nil, List.append_nil]; exact h1)).1
    have hi8 := List.mem_range.1 hi
    exact (one15_iff (hX i hi8) (hY i hi8)).2 (h2 i hi)
  · intro h
    congr 1
    exact rowsB15_congr fun i hi => (one15_iff (hX i hi) (hY i hi)).1 (h i (List.mem_range.2 hi))
end Go.Proofs.Ytadecmjojnhlnaa

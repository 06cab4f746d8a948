/-
  Replies and bytes, plain: what is written is got, what is got is what was written.
  Conditions: none beyond each theorem's own.
-/
import Derived.Test.YtadecmjojnhlnaaOpRGet
namespace Go.Proofs.Ytadecmjojnhlnaa
open Go.RowKit

theorem rowGo_put14 (long : Int) : ∀ (ss acc : List ByteArray) (r : List UInt8), (∀ s ∈ ss, s.size ≤ 65535 ∧ (s.size : Int) ≤ long) → rowGo long ss.length ⟨textsB ss ++ r, 0⟩ acc = (⟨r, 0⟩, acc ++ ss)
  | [], acc, r, _ => by simp [rowGo, textsB]
  | s :: ss, acc, r, h => by
    have h1 := h s (List.mem_cons_self ..)
    have e : textsB (s :: ss) ++ r = textB s ++ (textsB ss ++ r) := by simp [textsB]
    rw [List.length_cons, e]
    unfold rowGo
    have e2 : (⟨s.data.toList.toArray⟩ : ByteArray) = s := tx14_back s
    rw [textS_put14 s _ long h1.1 h1.2, if_neg (by simp), e2, rowGo_put14 long ss _ r (fun t ht => h t (List.mem_cons_of_mem _ ht)), List.append_assoc]
    rfl
theorem rowS_put14 (ss : List ByteArray) (r : List UInt8) (most long : Int) (hn : ss.length ≤ 65535) (hm : (ss.length : Int) ≤ most) (h : ∀ s ∈ ss, s.size ≤ 65535 ∧ (s.size : Int) ≤ long) : rowS ⟨rowB ss ++ r, 0⟩ most long = (⟨r, 0⟩, ss) := by
  unfold rowS rowB
  rw [List.append_assoc, lengthS_put14 _ _ _ hn hm, rowGo_put14 long ss [] r h, List.nil_append]
theorem rowGo_got14 (long : Int) : ∀ (k : Nat) {st : St} (acc : List ByteArray), (rowGo long k st acc).1.e = 0 → st.e = 0 ∧ ∃ ss, ss.length = k ∧ (rowGo long k st acc).2 = acc ++ ss ∧ st.bs = textsB ss ++ (rowGo long k st acc).1.bs
  | 0, st, acc, h => ⟨h, [], rfl, by rw [List.append_nil]; rfl, rfl⟩
  | k + 1, st, acc, h => by
    by_cases he : (textS st long).1.e ≠ 0
    · unfold rowGo at h
      rw [if_pos he] at h
      exact absurd h he
    · have e0 : rowGo long (k + 1) st acc = rowGo long k (textS st long).1 (acc ++ [⟨(textS st long).2.toArray⟩]) := by
        show (if (textS st long).1.e ≠ 0 then _ else _) = _
        rw [if_neg he]
      rw [e0] at h ⊢
      obtain ⟨h1, ss, h2, h3, h4⟩ := rowGo_got14 long k _ h
      obtain ⟨h5, h6⟩ := textS_got14 h1
      refine ⟨h5, tx14 (textS st long).2 :: ss, by rw [List.length_cons, h2], by rw [h3, List.append_assoc]; rfl, ?_⟩
      rw [h6, h4]
      show _ = (textB (tx14 (textS st long).2) ++ textsB ss) ++ _
      rw [List.append_assoc]
theorem rowS_got14 {st : St} {m l : Int} (h : (rowS st m l).1.e = 0) : st.e = 0 ∧ st.bs = rowB (rowS st m l).2 ++ (rowS st m l).1.bs := by
  unfold rowS at h ⊢
  obtain ⟨h1, ss, h2, h3, h4⟩ := rowGo_got14 l _ _ h
  obtain ⟨h5, h6⟩ := lengthS_got14 h1
  refine ⟨h5, ?_⟩
  rw [h3, List.nil_append]
  unfold rowB
  rw [h2, List.append_assoc, ← h4]
  exact h6
theorem texts_size14 : ∀ (ss : List ByteArray), ss.length ≤ (textsB ss).length ∧ ∀ s ∈ ss, s.size ≤ (textsB ss).length
  | [] => ⟨Nat.le_refl _, fun s hs => by cases hs⟩
  | t :: ss => by
    obtain ⟨h1, h2⟩ := texts_size14 ss
    have e : (textsB (t :: ss)).length = (t.size + 2) + (textsB ss).length := by
      have : textsB (t :: ss) = textB t ++ textsB ss := rfl
      rw [this, List.length_append, textB_length]
    rw [e, List.length_cons]
    refine ⟨by omega, fun s hs => ?_⟩
    rcases List.mem_cons.1 hs with rfl | hs
    · omega
    · have := h2 s hs; omega

/-- What is written is got. -/
theorem gback14 {k : Nat} {ss : List ByteArray} (hk : k ≤ 18) (hn : ss.length ≤ 10) (hs : ∀ s ∈ ss, s.size ≤ 50) : gre14 (repB14 k ss) = 0 ∧ gk14 (repB14 k ss) = k ∧ gss14 (repB14 k ss) = tls14 k ss := by
  have hl : (tls14 k ss).length ≤ 10 ∧ ∀ s ∈ tls14 k ss, s.size ≤ 50 := by
    unfold tls14
    split
    · exact ⟨hn, hs⟩
    · exact ⟨Nat.zero_le _, fun s hs => by cases hs⟩
  have hno : ¬ (k ≠ 0 ∧ tls14 k ss ≠ []) := by
    rintro ⟨h1, h2⟩
    apply h2
    unfold tls14
    rw [if_neg (by omega)]
  have e1 : numS ⟨repB14 k ss, 0⟩ 1 = (⟨rowB (tls14 k ss), 0⟩, k) := by
    unfold repB14
    rw [numS_put14, show k % 256 ^ 1 = k from Nat.mod_eq_of_lt (by omega)]
  have ek : gk14 (repB14 k ss) = k := by unfold gk14; rw [e1]
  have e2 : gs2_14 (repB14 k ss) = ⟨rowB (tls14 k ss), 0⟩ := by unfold gs2_14; rw [e1]; exact if_neg (by omega)
  have e3 : rowS (gs2_14 (repB14 k ss)) 400 400 = (⟨[], 0⟩, tls14 k ss) := by
    have := rowS_put14 (tls14 k ss) [] 400 400 (by omega) (by omega) (fun s hs => by have := hl.2 s hs; omega)
    rw [List.append_nil] at this
    rw [e2, this]
  have es : gss14 (repB14 k ss) = tls14 k ss := by unfold gss14; rw [e3]
  have e4 : gs4_14 (repB14 k ss) = ⟨[], 0⟩ := by
    unfold gs4_14
    rw [es, ek, if_neg hno, e3]
  exact ⟨by unfold gre14; rw [e4]; rfl, ek, es⟩
/-- What is got is what was written. -/
theorem ggot14 {bs : List UInt8} (h : gre14 bs = 0) (hl : bs.length ≤ 1000) : gk14 bs < 256 ∧ repB14 (gk14 bs) (gss14 bs) = bs ∧ Txs14 (gss14 bs) := by
  obtain ⟨h1, h2⟩ := endS_zero14 (st := gs4_14 bs) h
  have hc : ¬ (gk14 bs ≠ 0 ∧ gss14 bs ≠ []) := fun hc => by
    unfold gs4_14 at h2
    rw [if_pos hc] at h2
    exact failS_ne14 (by decide) h2
  have e4 : gs4_14 bs = (rowS (gs2_14 bs) 400 400).1 := by unfold gs4_14; rw [if_neg hc]
  rw [e4] at h1 h2
  obtain ⟨h3, h4⟩ := rowS_got14 h2
  have h18 : ¬ 18 < gk14 bs := fun hk => by
    have e2 : gs2_14 bs = failS (numS ⟨bs, 0⟩ 1).1 4 := if_pos hk
    rw [e2] at h3
    exact failS_ne14 (by decide) h3
  have e2 : gs2_14 bs = (numS ⟨bs, 0⟩ 1).1 := if_neg h18
  rw [e2] at h3
  obtain ⟨_, h5⟩ := numS_got14 h3
  rw [h1, List.append_nil] at h4
  have ht : tls14 (gk14 bs) (gss14 bs) = gss14 bs := by
    unfold tls14
    by_cases h0 : (gk14 bs : Int) = 0
    · rw [if_pos h0]
    · rw [if_neg h0]
      exact Classical.byContradiction fun hn => hc ⟨by omega, fun e => hn e.symm⟩
  have hb : repB14 (gk14 bs) (gss14 bs) = bs := by
    unfold repB14
    rw [ht]
    show le (numS ⟨bs, 0⟩ 1).2 1 ++ rowB (rowS (gs2_14 bs) 400 400).2 = (⟨bs, 0⟩ : St).bs
    rw [h5, ← h4, e2]
  have hrl : (textsB (gss14 bs)).length ≤ bs.length := by
    have := congrArg List.length hb
    unfold repB14 at this
    rw [ht] at this
    simp only [rowB, List.length_append, le_length] at this
    omega
  have hsz := texts_size14 (gss14 bs)
  exact ⟨numS_lt _ 1, hb, by have := hsz.1; omega, fun s hs => by have := hsz.2 s hs; omega⟩
end Go.Proofs.Ytadecmjojnhlnaa

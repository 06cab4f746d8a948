/-
  The texts that the laws of this seat share, part 9: what the code and the document's own answers tell, walked function by function.
  Conditions: each theorem's own.
-/
import Derived.Test.YtmcomnocpibiiaaGreatDoorFolRBA
import Derived.Test.YtmcomnocpibiiaaGreatDoorFolRBB
import Derived.Test.YtmcomnocpibiiaaGreatDoorFolRBC
import Derived.Test.YtmcomnocpibiiaaGreatDoorFolRBD
import Derived.Test.YtmcomnocpibiiaaGreatDoorFolRBE
import Derived.Test.YtmcomnocpibiiaaGreatDoorFolRBF
import Derived.Test.YtmcomnocpibiiaaGreatDoorFolRBG
import Derived.Test.YtmcomnocpibiiaaGreatDoorFolRBH
namespace Go.Proofs.YtmcomnocpibiiaaGreatDoor
open Go.RowKit Go.Maps

theorem le_val12 : ∀ m : List UInt8, le (val m) m.length = m
 | [] => rfl
 | b :: l => by
  have hb : b.toNat < 256 := b.toNat_lt
  rw [val, List.length_cons, le_cons, show (b.toNat + 256 * val l) / 256 = val l by omega, le_val12 l]
  congr 1
  apply UInt8.toNat_inj.1
  simp only [UInt8.toNat_ofNat']
  omega
theorem failS_e12 {st : St} {e : Int} (h : st.e ≠ 0) : failS st e = st := by unfold failS; rw [if_pos (.inr h)]
theorem failS_z12 (st : St) : failS st 0 = st := by unfold failS; rw [if_pos (.inl rfl)]
theorem failS_zero12 {st : St} {e : Int} (h : (failS st e).e = 0) : e = 0 ∧ st.e = 0 ∧ failS st e = st := by
 by_cases he : e = 0
 ·
  subst he
  rw [failS_z12] at h ⊢
  exact ⟨rfl, h, rfl⟩
 ·
  unfold failS at h
  by_cases hs : st.e = 0
  ·
   rw [if_neg (by simp [he, hs])] at h
   exact absurd h he
  ·
   rw [if_pos (.inr hs)] at h
   exact absurd h hs
theorem takeS_keep12 {st : St} (n : Nat) (h : st.e ≠ 0) : (takeS st n).1.e = st.e := by
 unfold takeS
 split
 ·
  rw [failS_e12 h]
 ·
  rfl
theorem failS_keep12 {st : St} (e : Int) (h : st.e ≠ 0) : (failS st e).e = st.e := by rw [failS_e12 h]
theorem numS_keep12 {st : St} (n : Nat) (h : st.e ≠ 0) : (numS st n).1.e = st.e := takeS_keep12 n h
theorem lengthS_keep12 {st : St} (m : Int) (h : st.e ≠ 0) : (lengthS st m).1.e = st.e := by
 have h1 := numS_keep12 2 h
 unfold lengthS
 split
 ·
  rw [failS_keep12 _ (by rw [h1]; exact h), h1]
 ·
  exact h1
theorem textS_keep12 {st : St} (m : Int) (h : st.e ≠ 0) : (textS st m).1.e = st.e := by
 have h1 := lengthS_keep12 m h
 unfold textS
 rw [takeS_keep12 _ (by rw [h1]; exact h), h1]
theorem takeS_got12 {st : St} {n : Nat} (h : (takeS st n).1.e = 0) : st.e = 0 ∧ (takeS st n).2.length = n ∧ st.bs = (takeS st n).2 ++ (takeS st n).1.bs := by
 unfold takeS at h ⊢
 by_cases hl : st.bs.length < n
 ·
  rw [if_pos hl] at h
  obtain ⟨h1, _⟩ := failS_zero12 h
  cases h1
 ·
  rw [if_neg hl] at h ⊢
  exact ⟨h, by simp only [List.length_take]; omega, (List.take_append_drop n st.bs).symm⟩
theorem numS_got12 {st : St} {n : Nat} (h : (numS st n).1.e = 0) : st.e = 0 ∧ st.bs = le (numS st n).2 n ++ (numS st n).1.bs := by
 obtain ⟨h1, h2, h3⟩ := takeS_got12 (st := st) (n := n) h
 refine ⟨h1, ?_⟩
 have := le_val12 (takeS st n).2
 rw [h2] at this
 show st.bs = le (val (takeS st n).2) n ++ (takeS st n).1.bs
 rw [this]
 exact h3
theorem textS_got12 {st : St} {m : Int} (h : (textS st m).1.e = 0) : st.e = 0 ∧ st.bs = textB (mk6 (textS st m).2) ++ (textS st m).1.bs := by
 obtain ⟨h1, h2, h3⟩ := takeS_got12 (st := (lengthS st m).1) (n := (lengthS st m).2) h
 have h4 : (lengthS st m) = ((numS st 2).1, (numS st 2).2) := by
  unfold lengthS at h1 ⊢
  split at h1
  ·
   obtain ⟨h5, _⟩ := failS_zero12 h1
   cases h5
  ·
   rename_i hc
   rw [if_neg hc]
 have h5 : (numS st 2).1.e = 0 := by rw [h4] at h1; exact h1
 obtain ⟨h6, h7⟩ := numS_got12 h5
 refine ⟨h6, ?_⟩
 have e1 : (lengthS st m).1 = (numS st 2).1 := by rw [h4]
 have e2 : (lengthS st m).2 = (numS st 2).2 := by rw [h4]
 show st.bs = textB (mk6 (takeS (lengthS st m).1 (lengthS st m).2).2) ++ (takeS (lengthS st m).1 (lengthS st m).2).1.bs
 have h8 : (mk6 (takeS (lengthS st m).1 (lengthS st m).2).2).data.toList = (takeS (lengthS st m).1 (lengthS st m).2).2 := by simp [mk6]
 unfold textB
 rw [mk6_size, h8, h2, e2, h7, List.append_assoc, ← e1]
 rw [e2] at h3
 rw [← h3]

theorem truthS_keep12 {st : St} (h : st.e ≠ 0) : (truthS st).1.e = st.e := by
 have h1 := numS_keep12 1 h
 unfold truthS
 split
 ·
  rw [failS_keep12 _ (by rw [h1]; exact h), h1]
 ·
  exact h1
theorem rowGo_keep12 (long : Int) : ∀ (k : Nat) {st : St} (acc : List ByteArray), st.e ≠ 0 → (rowGo long k st acc).1.e = st.e
 | 0, _, _, _ => rfl
 | k + 1, st, acc, h => by
  have h1 := textS_keep12 long h
  unfold rowGo
  rw [if_pos (by rw [h1]; exact h)]
  exact h1
theorem rowS_keep12 {st : St} (m l : Int) (h : st.e ≠ 0) : (rowS st m l).1.e = st.e := by
 have h1 := lengthS_keep12 m h
 unfold rowS
 rw [rowGo_keep12 l _ _ (by rw [h1]; exact h), h1]
theorem rowS_left12 (st : St) (m l : Int) : (rowS st m l).1.bs.length ≤ st.bs.length := Nat.le_trans (rowGo_left l _ _ _) (lengthS_left st m)

def tell12 (st : St) : Us := if (getS 2 st).1.e = 0 then (getS 2 st).2 else zeroU
def users12 : Nat → St → St × List Us
 | 0, st => (st, [])
 | k + 1, st => ((users12 k (getS 2 st).1).1, tell12 st :: (users12 k (getS 2 st).1).2)
def schema12 (st : St) : St := if (numS st 1).2 = 2 then (numS st 1).1 else failS (numS st 1).1 6
def count12 (st : St) : St × Nat := if 12 < (numS st 2).2 then (failS (numS st 2).1 7, 0) else numS st 2
def code12 (G : List ByteArray) (r : St × List Us) : Int × List Us × List ByteArray :=
 if r.1.e ≠ 0 then (r.1.e, [], []) else if ofD11 r.2 G ≠ 0 then (ofD11 r.2 G, [], []) else if endS r.1 ≠ 0 then (endS r.1, [], []) else (0, r.2, G)
def tail12 (g : St × List ByteArray) : Int × List Us × List ByteArray := code12 g.2 (users12 (count12 g.1).2 (count12 g.1).1)
def read12 (bs : List UInt8) : Int × List Us × List ByteArray := tail12 (rowS (schema12 ⟨bs, 0⟩) 6 12)
def folB (l : List Us) (G : List ByteArray) : List UInt8 := le 2 1 ++ (rowB G ++ (le l.length 2 ++ l.flatMap (userB 2)))

theorem getS2_keep12 {st : St} (h : st.e ≠ 0) : (getS 2 st).1.e = st.e := by
 rcases h1 : textS st 65535 with ⟨s1, nm⟩
 rcases h2 : textS s1 65535 with ⟨s2, hs⟩
 rcases h3 : textS s2 65535 with ⟨s3, ml⟩
 rcases h4 : truthS s3 with ⟨s4, dis⟩
 rcases h5 : rowS s4 65535 65535 with ⟨s5, gs⟩
 have e1 : s1.e = st.e := by have := textS_keep12 65535 h; rwa [h1] at this
 have e2 : s2.e = st.e := by have := textS_keep12 (st := s1) 65535 (by rw [e1]; exact h); rw [h2] at this; exact this.trans e1
 have e3 : s3.e = st.e := by have := textS_keep12 (st := s2) 65535 (by rw [e2]; exact h); rw [h3] at this; exact this.trans e2
 have e4 : s4.e = st.e := by have := truthS_keep12 (st := s3) (by rw [e3]; exact h); rw [h4] at this; exact this.trans e3
 have e5 : s5.e = st.e := by have := rowS_keep12 (st := s4) 65535 65535 (by rw [e4]; exact h); rw [h5] at this; exact this.trans e4
 rw [getS_two h1 h2 h3 h4 h5]
 dsimp only
 rw [failS_keep12 _ (by rw [e5]; exact h), e5]
theorem getS2_left12 (st : St) : (getS 2 st).1.bs.length ≤ st.bs.length := by
 rcases h1 : textS st 65535 with ⟨s1, nm⟩
 rcases h2 : textS s1 65535 with ⟨s2, hs⟩
 rcases h3 : textS s2 65535 with ⟨s3, ml⟩
 rcases h4 : truthS s3 with ⟨s4, dis⟩
 rcases h5 : rowS s4 65535 65535 with ⟨s5, gs⟩
 have e1 := textS_left st 65535
 have e2 := textS_left s1 65535
 have e3 := textS_left s2 65535
 have e4 := truthS_left6 s3
 have e5 := rowS_left12 s4 65535 65535
 rw [h1] at e1
 rw [h2] at e2
 rw [h3] at e3
 rw [h4] at e4
 rw [h5] at e5
 dsimp only at e1 e2 e3 e4 e5
 rw [getS_two h1 h2 h3 h4 h5]
 dsimp only
 have e6 := failS_length s5 (chk6 2 (two6 nm hs ml dis gs))
 omega
theorem users_keep12 : ∀ (k : Nat) {st : St}, st.e ≠ 0 → (users12 k st).1.e = st.e
 | 0, _, _ => rfl
 | k + 1, st, h => by
  have h1 := getS2_keep12 h
  show (users12 k (getS 2 st).1).1.e = _
  rw [users_keep12 k (by rw [h1]; exact h), h1]
theorem users_length12 : ∀ (k : Nat) (st : St), (users12 k st).2.length = k
 | 0, _ => rfl
 | k + 1, st => by
  show (tell12 st :: (users12 k (getS 2 st).1).2).length = _
  rw [List.length_cons, users_length12 k]
theorem schema_left12 (st : St) : (schema12 st).bs.length ≤ st.bs.length := by
 unfold schema12
 split
 ·
  exact numS_left st 1
 ·
  exact Nat.le_trans (failS_length _ _) (numS_left st 1)
theorem count_left12 (st : St) : (count12 st).1.bs.length ≤ st.bs.length := by
 unfold count12
 split
 ·
  exact Nat.le_trans (failS_length _ _) (numS_left st 2)
 ·
  exact numS_left st 2
theorem count_few12 (st : St) : (count12 st).2 ≤ 12 := by
 unfold count12
 split
 ·
  exact Nat.zero_le _
 ·
  omega
theorem count_keep12 {st : St} (h : st.e ≠ 0) : (count12 st).1.e = st.e := by
 have h1 := numS_keep12 2 h
 unfold count12
 split
 ·
  rw [failS_keep12 _ (by rw [h1]; exact h), h1]
 ·
  exact h1
theorem tail_bad12 {st : St} (G : List ByteArray) (h : st.e ≠ 0) : tail12 (st, G) = (st.e, [], []) := by
 have h1 := count_keep12 h
 have h2 := users_keep12 (count12 st).2 (st := (count12 st).1) (by rw [h1]; exact h)
 show code12 G (users12 (count12 st).2 (count12 st).1) = _
 unfold code12
 rw [if_pos (by rw [h2, h1]; exact h), h2, h1]

/-! ### What was read is what is written -/
theorem truthS_got12 {st : St} (h : (truthS st).1.e = 0) : st.e = 0 ∧ st.bs = le (truthS st).2.toNat 1 ++ (truthS st).1.bs := by
 unfold truthS at h ⊢
 by_cases hc : 1 < (numS st 1).2
 ·
  rw [if_pos hc] at h
  obtain ⟨h1, _⟩ := failS_zero12 h
  cases h1
 ·
  rw [if_neg hc] at h ⊢
  dsimp only at h ⊢
  obtain ⟨h1, h2⟩ := numS_got12 h
  refine ⟨h1, ?_⟩
  have hx : (numS st 1).2 = 0 ∨ (numS st 1).2 = 1 := by omega
  rcases hx with hx | hx
  ·
   rw [hx] at h2 ⊢; exact h2
  ·
   rw [hx] at h2 ⊢; exact h2
theorem lengthS_got12 {st : St} {m : Int} (h : (lengthS st m).1.e = 0) : st.e = 0 ∧ st.bs = le (lengthS st m).2 2 ++ (lengthS st m).1.bs := by
 unfold lengthS at h ⊢
 split at h
 ·
  obtain ⟨h5, _⟩ := failS_zero12 h
  cases h5
 ·
  rename_i hc
  rw [if_neg hc]
  exact numS_got12 h
theorem rowGo_got12 (long : Int) : ∀ (k : Nat) {st : St} (acc : List ByteArray), (rowGo long k st acc).1.e = 0 → st.e = 0 ∧ ∃ ss, ss.length = k ∧ (rowGo long k st acc).2 = acc ++ ss ∧ st.bs = textsB ss ++ (rowGo long k st acc).1.bs
 | 0, st, acc, h => ⟨h, [], rfl, by rw [List.append_nil]; rfl, rfl⟩
 | k + 1, st, acc, h => by
  by_cases he : (textS st long).1.e ≠ 0
  ·
   unfold rowGo at h
   rw [if_pos he] at h
   exact absurd h he
  ·
   have e0 : rowGo long (k + 1) st acc = rowGo long k (textS st long).1 (acc ++ [⟨(textS st long).2.toArray⟩]) := by
    show (if (textS st long).1.e ≠ 0 then _ else _) = _
    rw [if_neg he]
   rw [e0] at h ⊢
   obtain ⟨h1, ss, h2, h3, h4⟩ := rowGo_got12 long k _ h
   obtain ⟨h5, h6⟩ := textS_got12 h1
   refine ⟨h5, mk6 (textS st long).2 :: ss, by rw [List.length_cons, h2], by rw [h3, List.append_assoc]; rfl, ?_⟩
   rw [h6, h4]
   show _ = (textB (mk6 (textS st long).2) ++ textsB ss) ++ _
   rw [List.append_assoc]
theorem rowS_got12 {st : St} {m l : Int} (h : (rowS st m l).1.e = 0) : st.e = 0 ∧ st.bs = rowB (rowS st m l).2 ++ (rowS st m l).1.bs := by
 unfold rowS at h ⊢
 obtain ⟨h1, ss, h2, h3, h4⟩ := rowGo_got12 l _ _ h
 obtain ⟨h5, h6⟩ := lengthS_got12 h1
 refine ⟨h5, ?_⟩
 rw [h3, List.nil_append]
 unfold rowB
 rw [h2, List.append_assoc, ← h4]
 exact h6
theorem getS2_got12 {st : St} (h : (getS 2 st).1.e = 0) : st.e = 0 ∧ chk6 2 (tell12 st) = 0 ∧ st.bs = userB 2 (tell12 st) ++ (getS 2 st).1.bs := by
 have ht : tell12 st = (getS 2 st).2 := by unfold tell12; rw [if_pos h]
 rw [ht]
 clear ht
 have g1 := textS_got12 (st := st) (m := 65535)
 rcases h1 : textS st 65535 with ⟨s1, nm⟩
 rw [h1] at g1
 have g2 := textS_got12 (st := s1) (m := 65535)
 rcases h2 : textS s1 65535 with ⟨s2, hs⟩
 rw [h2] at g2
 have g3 := textS_got12 (st := s2) (m := 65535)
 rcases h3 : textS s2 65535 with ⟨s3, ml⟩
 rw [h3] at g3
 have g4 := truthS_got12 (st := s3)
 rcases h4 : truthS s3 with ⟨s4, dis⟩
 rw [h4] at g4
 have g5 := rowS_got12 (st := s4) (m := 65535) (l := 65535)
 rcases h5 : rowS s4 65535 65535 with ⟨s5, gs⟩
 rw [h5] at g5
 rw [getS_two h1 h2 h3 h4 h5] at h ⊢
 dsimp only at *
 obtain ⟨hc, h0, he⟩ := failS_zero12 h
 obtain ⟨k5, b5⟩ := g5 h0
 obtain ⟨k4, b4⟩ := g4 k5
 obtain ⟨k3, b3⟩ := g3 k4
 obtain ⟨k2, b2⟩ := g2 k3
 obtain ⟨k1, b1⟩ := g1 k2
 refine ⟨k1, hc, ?_⟩
 rw [he, b1, b2, b3, b4, b5]
 show _ = (textB (mk6 nm) ++ textB (mk6 hs) ++ (textB (mk6 ml) ++ le dis.toNat 1 ++ rowB gs)) ++ s5.bs
 simp only [List.append_assoc]
theorem users_got12 : ∀ (k : Nat) {st : St}, (users12 k st).1.e = 0 → st.e = 0 ∧ (∀ u ∈ (users12 k st).2, chk6 2 u = 0) ∧ st.bs = (users12 k st).2.flatMap (userB 2) ++ (users12 k st).1.bs
 | 0, st, h => ⟨h, (fun u hu => by cases hu), rfl⟩
 | k + 1, st, h => by
  obtain ⟨h1, h2, h3⟩ := users_got12 k (st := (getS 2 st).1) h
  obtain ⟨h4, h5, h6⟩ := getS2_got12 h1
  refine ⟨h4, fun u hu => ?_, ?_⟩
  ·
   rcases List.mem_cons.1 hu with rfl | hu
   ·
    exact h5
   ·
    exact h2 u hu
  ·
   show st.bs = (tell12 st :: (users12 k (getS 2 st).1).2).flatMap (userB 2) ++ (users12 k (getS 2 st).1).1.bs
   rw [List.flatMap_cons, List.append_assoc, ← h3]
   exact h6
theorem schema_got12 {bs : List UInt8} (h : (schema12 ⟨bs, 0⟩).e = 0) : bs = le 2 1 ++ (schema12 ⟨bs, 0⟩).bs := by
 unfold schema12 at h ⊢
 by_cases hc : (numS ⟨bs, 0⟩ 1).2 = 2
 ·
  rw [if_pos hc] at h ⊢
  obtain ⟨_, h2⟩ := numS_got12 h
  rw [hc] at h2
  exact h2
 ·
  rw [if_neg hc] at h
  obtain ⟨h5, _⟩ := failS_zero12 h
  cases h5
theorem count_got12 {st : St} (h : (count12 st).1.e = 0) : st.e = 0 ∧ st.bs = le (count12 st).2 2 ++ (count12 st).1.bs := by
 unfold count12 at h ⊢
 by_cases hc : 12 < (numS st 2).2
 ·
  rw [if_pos hc] at h
  obtain ⟨h5, _⟩ := failS_zero12 h
  cases h5
 ·
  rw [if_neg hc] at h ⊢
  exact numS_got12 h
theorem code_zero12 {G : List ByteArray} {r : St × List Us} (h : (code12 G r).1 = 0) : code12 G r = (0, r.2, G) ∧ r.1.e = 0 ∧ ofD11 r.2 G = 0 ∧ r.1.bs = [] := by
 unfold code12 at h ⊢
 by_cases h1 : r.1.e ≠ 0
 ·
  rw [if_pos h1] at h; exact absurd h h1
 ·
  rw [if_neg h1] at h ⊢
  by_cases h2 : ofD11 r.2 G ≠ 0
  ·
   rw [if_pos h2] at h; exact absurd h h2
  ·
   rw [if_neg h2] at h ⊢
   by_cases h3 : endS r.1 ≠ 0
   ·
    rw [if_pos h3] at h; exact absurd h h3
   ·
    rw [if_neg h3]
    refine ⟨rfl, by simpa using h1, by simpa using h2, ?_⟩
    unfold endS at h3
    by_cases h4 : 0 < r.1.bs.length
    ·
     rw [if_pos h4] at h3; exact absurd (by decide) h3
    ·
     exact List.eq_nil_of_length_eq_zero (by omega)
theorem read12_got {bs : List UInt8} (h : (read12 bs).1 = 0) : (∀ u ∈ (read12 bs).2.1, chk6 2 u = 0) ∧ ofD11 (read12 bs).2.1 (read12 bs).2.2 = 0 ∧ folB (read12 bs).2.1 (read12 bs).2.2 = bs := by
 unfold read12 tail12 at h ⊢
 obtain ⟨e0, h1, h2, h3⟩ := code_zero12 h
 rw [e0]
 dsimp only
 obtain ⟨k1, k2, k3⟩ := users_got12 _ h1
 obtain ⟨k4, k5⟩ := count_got12 k1
 obtain ⟨k6, k7⟩ := rowS_got12 k4
 have k8 := schema_got12 k6
 refine ⟨k2, h2, ?_⟩
 unfold folB
 rw [users_length12]
 rw [h3, List.append_nil] at k3
 rw [← k3, ← k5, ← k7]
 exact k8.symm

/-! ### What is written is read -/
structure May12 (l : List Us) (G : List ByteArray) : Prop where
 of : ofD11 l G = 0
 all : ∀ u ∈ l, chk6 2 u = 0
 few : l.length ≤ 12
 names : names6 G = true
 rise : rise6 G = true
 gfew : G.length ≤ 6
theorem may12 {l : List Us} {G : List ByteArray} (h : ofD11 l G = 0) : May12 l G := by
 have hc : cE11 l G = 0 := by
  by_cases hc : cE11 l G = 0
  ·
   exact hc
  ·
   have := (cE_of (l := l) (G := G)).1 hc
   rw [h] at this
   exact absurd this.symm hc
 obtain ⟨h1, _, h3, h4, h5, h6⟩ := cE_facts hc
 exact ⟨h, h1, h3, h4, h5, h6⟩
theorem May12.sizes {l : List Us} {G : List ByteArray} (h : May12 l G) : ∀ g ∈ G, g.size ≤ 12 := fun g hg => name5_size (by
 have := List.all_eq_true.1 h.names g hg
 exact this)
theorem folB_nrm12 (l : List Us) (G : List ByteArray) : folB (l.map nrm11) G = folB l G := by
 unfold folB
 rw [List.length_map, List.flatMap_map]
 rfl

/-! ### How long -/
theorem textsB_length12 {n : Nat} : ∀ {ss : List ByteArray}, (∀ s ∈ ss, s.size ≤ n) → (textsB ss).length ≤ (n + 2) * ss.length
 | [], _ => by simp [textsB]
 | s :: ss, h => by
  have h1 := h s (List.mem_cons_self ..)
  have h2 := textsB_length12 (n := n) (ss := ss) (fun x hx => h x (List.mem_cons_of_mem _ hx))
  show (textB s ++ textsB ss).length ≤ _
  rw [List.length_append, textB_length, List.length_cons, Nat.mul_succ]
  omega
theorem userB_length12 {u : Us} (h : chk6 2 u = 0) : (userB 2 u).length ≤ 137 := by
 obtain ⟨hl, _⟩ := chk6_little h
 have h1 := hl.nm
 have h2 := hl.hs
 have h3 := hl.ml
 have h4 := textsB_length12 hl.all
 have h5 := hl.len
 show (textB u.nm ++ textB u.hs ++ (textB u.ml ++ le u.dis.toNat 1 ++ (le u.gs.length 2 ++ textsB u.gs))).length ≤ 137
 simp only [List.length_append, textB_length, le_length]
 omega
theorem usersB_length12 : ∀ {l : List Us}, (∀ u ∈ l, chk6 2 u = 0) → (l.flatMap (userB 2)).length ≤ 137 * l.length
 | [], _ => Nat.le_refl _
 | q :: l, h => by
  have h1 := userB_length12 (h q (List.mem_cons_self ..))
  have h2 := usersB_length12 (l := l) (fun x hx => h x (List.mem_cons_of_mem _ hx))
  rw [List.flatMap_cons, List.length_append, List.length_cons]
  omega

/-! ### The document's way -/
def body12 (st : St) : Int × List Us × List ByteArray :=
 if (numS (rowS st 6 12).1 2).1.e ≠ 0 then ((numS (rowS st 6 12).1 2).1.e, [], [])
 else if 12 < (numS (rowS st 6 12).1 2).2 then (7, [], [])
 else code12 (rowS st 6 12).2 (users12 (numS (rowS st 6 12).1 2).2 (numS (rowS st 6 12).1 2).1)
def doc12 : List UInt8 → Int × List Us × List ByteArray
 | [] => (2, [], [])
 | b :: r => if b = 2 then body12 ⟨r, 0⟩ else (6, [], [])
theorem read12_doc (bs : List UInt8) : read12 bs = doc12 bs := by
 have hstop : ∀ (st : St) (e : Int), schema12 ⟨bs, 0⟩ = st → st.e = e → e ≠ 0 → read12 bs = (e, [], []) := fun st e h0 h1 h2 => by
  have hk := rowS_keep12 (st := st) 6 12 (by rw [h1]; exact h2)
  unfold read12
  rw [h0]
  have := tail_bad12 (st := (rowS st 6 12).1) (rowS st 6 12).2 (by rw [hk, h1]; exact h2)
  rw [hk, h1] at this
  exact this
 cases bs with
 | nil => exact hstop _ 2 rfl rfl (by decide)
 | cons b r =>
  have hnum : numS ⟨b :: r, 0⟩ 1 = (⟨r, 0⟩, b.toNat) := by
   unfold numS takeS
   rw [if_neg (by simp)]
   simp [val]
  show _ = if b = 2 then body12 ⟨r, 0⟩ else (6, [], [])
  by_cases hb : b = 2
  ·
   subst hb
   rw [if_pos rfl]
   have hs : schema12 ⟨2 :: r, 0⟩ = ⟨r, 0⟩ := by unfold schema12; rw [hnum]; rfl
   unfold read12
   rw [hs]
   unfold body12 tail12
   generalize rowS ⟨r, 0⟩ 6 12 = g
   by_cases he : (numS g.1 2).1.e ≠ 0
   ·
    rw [if_pos he]
    have hc : (count12 g.1).1.e = (numS g.1 2).1.e := by
     unfold count12
     split
     ·
      exact failS_keep12 7 he
     ·
      rfl
    have h2 := users_keep12 (count12 g.1).2 (st := (count12 g.1).1) (by rw [hc]; exact he)
    unfold code12
    rw [if_pos (by rw [h2, hc]; exact he), h2, hc]
   ·
    rw [if_neg he]
    have he0 : (numS g.1 2).1.e = 0 := by simpa using he
    unfold count12
    by_cases hc : 12 < (numS g.1 2).2
    ·
     rw [if_pos hc, if_pos hc]
     dsimp only
     have h7 : (failS (numS g.1 2).1 7).e = 7 := by
      unfold failS
      rw [if_neg (by simp [he0])]
     show code12 g.2 (failS (numS g.1 2).1 7, []) = _
     unfold code12
     dsimp only
     rw [if_pos (by rw [h7]; decide), h7]
    ·
     rw [if_neg hc, if_neg hc]
  ·
   rw [if_neg hb]
   have hs : schema12 ⟨b :: r, 0⟩ = ⟨[], 6⟩ := by
    unfold schema12
    rw [hnum]
    dsimp only
    rw [if_neg (show ¬ b.toNat = 2 from fun h => hb (UInt8.toNat_inj.1 h))]
    rfl
   exact hstop _ 6 hs rfl (by decide)

/-! ### A directory's rows -/
def usOf12 (p : List UInt8 × U11) : Us := ⟨tx10 p.1, tx10 p.2.hs, tx10 p.2.ml, p.2.dis, none, p.2.gs.map tx10, 0⟩
theorem bl_tx12 (N : List (List UInt8)) : bl11 (N.map tx10) = N := by
 unfold bl11
 rw [List.map_map]
 conv => rhs; rw [← List.map_id N]
 exact List.map_congr_left fun x _ => tx10_list x
theorem tx_bl12 (G : List ByteArray) : (bl11 G).map tx10 = G := by
 unfold bl11
 rw [List.map_map]
 conv => rhs; rw [← List.map_id G]
 exact List.map_congr_left fun x _ => tx10_back x
theorem usOf_plU12 (l : List Us) : (plU11 l).map usOf12 = l.map nrm11 := by
 unfold plU11
 rw [List.map_map]
 refine List.map_congr_left fun u _ => ?_
 show (⟨tx10 u.nm.data.toList, tx10 u.hs.data.toList, tx10 u.ml.data.toList, u.dis, none, (bl11 u.gs).map tx10, 0⟩ : Us) = nrm11 u
 rw [tx10_back, tx10_back, tx10_back, tx_bl12]
 rfl
def folT12 (T : Usr11) (N : List (List UInt8)) : List UInt8 := folB (T.map usOf12) (N.map tx10)
theorem folT_of12 (l : List Us) (G : List ByteArray) : folT12 (plU11 l) (bl11 G) = folB l G := by
 unfold folT12
 rw [usOf_plU12, tx_bl12, folB_nrm12]
theorem rise6_of12 : ∀ {ss : List ByteArray}, (ss.Pairwise fun a b => bytesBefore a.data.toList b.data.toList = true) → rise6 ss = true
 | [], _ => rfl
 | [_], _ => rfl
 | a :: b :: r, h => by
  obtain ⟨h1, h2⟩ := List.pairwise_cons.1 h
  unfold rise6
  rw [rise6_of12 h2, Bool.and_true]
  unfold ahead6
  rw [before_cmp]
  exact h1 b (List.mem_cons_self ..)
theorem rise6_tx12 {N : List (List UInt8)} (h : RiseT N) : rise6 (N.map tx10) = true := by
 refine rise6_of12 (List.pairwise_map.2 (List.Pairwise.imp (fun {a b} hab => ?_) h))
 rw [tx10_list, tx10_list]
 exact hab
theorem names6_tx12 {N : List (List UInt8)} (h : ∀ n ∈ N, name5 n = true) : names6 (N.map tx10) = true := by
 unfold names6
 rw [List.all_eq_true]
 intro g hg
 obtain ⟨n, hn, rfl⟩ := List.mem_map.1 hg
 rw [tx10_list]
 exact h n hn
section
variable {A : Acc11} {L : Row7} {S : Grs10} {k : Nat}
theorem good_mail12 (h : Good11 A L S k) (n : List UInt8) : fold6 (tx10 (getE L n)) = true := by
 unfold fold6
 rw [Bool.or_eq_true, Bool.and_eq_true, decide_eq_true_eq, decide_eq_true_eq, tx10_list, tx10_size]
 cases hh : hasE L n with
 | false => exact .inl (by rw [getE_none hh]; rfl)
 | true =>
  obtain ⟨_, h2, h3⟩ := h.all _ (hasE_mem hh)
  refine .inr ⟨h2, ?_⟩
  unfold mailT
  rw [if_pos h2]
  show tx10 (fold5 (getE L n)) = _
  rw [h3]
theorem good_chk12 (h : Good11 A L S k) (p : List UInt8 × (List UInt8 × Bool)) (hp : p ∈ A) : chk6 2 (usOf12 (p.1, tell1 L S p.1 p.2)) = 0 := by
 obtain ⟨h1, h2⟩ := h.nm p hp
 have h3 := good_mail12 h p.1
 have h4 : ((of10 S p.1).map tx10).length ≤ 6 := by rw [List.length_map]; exact Nat.le_trans (of10_le S p.1) h.grp.few
 have h5 : names6 ((of10 S p.1).map tx10) = true := names6_tx12 fun g hg => by
  obtain ⟨q, hq, rfl⟩ := List.mem_map.1 (of10_sub hg)
  exact h.grp.named q hq
 have h6 : rise6 ((of10 S p.1).map tx10) = true := rise6_tx12 (of10_rise h.grp.rise p.1)
 unfold chk6
 dsimp only
 rw [if_neg (by decide)]
 show first6 [first6 [err5 (know6 2) 6, err5 (name5 (tx10 p.1).data.toList) 10, err5 (hash5 (tx10 p.2.1).data.toList) 4], err5 (fold6 (tx10 (getE L p.1))) 11, err5 (decide (((of10 S p.1).map tx10).length ≤ 6)) 7, err5 (names6 ((of10 S p.1).map tx10)) 10, err5 (rise6 ((of10 S p.1).map tx10)) 9] = 0
 rw [tx10_list, tx10_list, h1, h2, h3, h5, h6, decide_eq_true h4]
 rfl
theorem tell_us12 (A : Acc11) (L : Row7) (S : Grs10) : (tell11 A L S).map usOf12 = A.map fun p => usOf12 (p.1, tell1 L S p.1 p.2) := by
 unfold tell11
 rw [List.map_map]
 rfl
theorem may_zero12 : ∀ {l : List Us}, (∀ u ∈ l, chk6 2 u = 0) → mayE11 l = 0
 | [], _ => rfl
 | u :: l, h => by
  unfold mayE11
  rw [if_pos (h u (List.mem_cons_self ..))]
  exact may_zero12 fun x hx => h x (List.mem_cons_of_mem _ hx)
theorem rest_zero12 (G : List ByteArray) : ∀ (l pre : List Us), (∀ u ∈ l, u.gs.all (fun g => hasT (bl11 G) g.data.toList) = true) → (pre ++ l).Pairwise (fun u v => u.ml.data.toList ≠ [] → v.ml.data.toList ≠ u.ml.data.toList) → restD11 G pre l = 0
 | [], _, _, _ => rfl
 | u :: l, pre, h1, h2 => by
  obtain ⟨_, _, p3⟩ := List.pairwise_append.1 h2
  have h0 : oneD11 G pre u = 0 := by
   unfold oneD11
   rw [if_pos (h1 u (List.mem_cons_self ..)), if_neg]
   rw [Bool.not_eq_true, List.any_eq_false]
   intro v hv hc
   rw [Bool.and_eq_true, Bool.not_eq_true', beq_eq_false_iff_ne, beq_iff_eq] at hc
   exact p3 v hv u (List.mem_cons_self ..) (by rw [← hc.2]; exact hc.1) hc.2
  show (if oneD11 G pre u = 0 then restD11 G (pre ++ [u]) l else oneD11 G pre u) = 0
  rw [if_pos h0]
  exact rest_zero12 G l (pre ++ [u]) (fun x hx => h1 x (List.mem_cons_of_mem _ hx)) (by rw [List.append_assoc]; exact h2)
theorem good_of12 (h : Good11 A L S k) : ofD11 ((tell11 A L S).map usOf12) ((names10 S).map tx10) = 0 := by
 have h1 : mayE11 ((tell11 A L S).map usOf12) = 0 := may_zero12 fun u hu => by
  rw [tell_us12] at hu
  obtain ⟨p, hp, rfl⟩ := List.mem_map.1 hu
  exact good_chk12 h p hp
 have h2 : rise6 (((tell11 A L S).map usOf12).map (·.nm)) = true := by
  have e : ((tell11 A L S).map usOf12).map (·.nm) = (names10 A).map tx10 := by
   rw [tell_us12, List.map_map]
   unfold names10
   rw [List.map_map]
   rfl
  rw [e]
  exact rise6_tx12 (RiseV.names h.rise)
 have h3 : ((tell11 A L S).map usOf12).length ≤ 12 := by rw [List.length_map, tell_len]; exact h.few
 have h4 : names6 ((names10 S).map tx10) = true := names6_tx12 fun n hn => by
  obtain ⟨q, hq, rfl⟩ := List.mem_map.1 hn
  exact h.grp.named q hq
 have h5 : rise6 ((names10 S).map tx10) = true := rise6_tx12 (RiseV.names h.grp.rise)
 have h6 : ((names10 S).map tx10).length ≤ 6 := by
  rw [List.length_map]
  unfold names10
  rw [List.length_map]
  exact h.grp.few
 have h7 : restD11 ((names10 S).map tx10) [] ((tell11 A L S).map usOf12) = 0 := by
  refine rest_zero12 _ _ _ (fun u hu => ?_) ?_
  ·
   rw [tell_us12] at hu
   obtain ⟨p, hp, rfl⟩ := List.mem_map.1 hu
   rw [List.all_eq_true]
   intro g hg
   obtain ⟨x, hx, rfl⟩ := List.mem_map.1 (show g ∈ (of10 S p.1).map tx10 from hg)
   rw [bl_tx12, tx10_list, hasT_iff]
   exact of10_sub hx
  ·
   rw [List.nil_append, tell_us12]
   refine List.pairwise_map.2 (List.Pairwise.imp (fun {p q} hpq => ?_) h.rise)
   show (tx10 (getE L p.1)).data.toList ≠ [] → (tx10 (getE L q.1)).data.toList ≠ (tx10 (getE L p.1)).data.toList
   rw [tx10_list, tx10_list]
   intro hne he
   obtain ⟨M, hM⟩ := h.mir
   have hp : hasE L p.1 = true := by
    cases hh : hasE L p.1 with
    | true => rfl
    | false => exact absurd (getE_none hh) hne
   have hq : hasE L q.1 = true := by
    cases hh : hasE L q.1 with
    | true => rfl
    | false => exact absurd (he ▸ getE_none hh) hne
   have m1 := (hM.iff _ _).1 (hasE_mem hp)
   have m2 := (hM.iff _ _).1 (hasE_mem hq)
   rw [he] at m2
   have e := rise_one hM.rm m1 m2
   rw [e] at hpq
   rw [before_irrefl] at hpq
   cases hpq
 unfold ofD11 ofE11
 rw [h1, h2, decide_eq_true (show ((((tell11 A L S).map usOf12).length : Nat) : Int) ≤ 12 by omega), h4, h5, if_pos h6, h7]
 rfl
end
end Go.Proofs.YtmcomnocpibiiaaGreatDoor


namespace Go.Proofs.YtmcomnocpibiiaaGreatDoor
open Go.RowKit Go.Maps Go.Sort Go.Shelf

/-! ### One user of any bytes -/
theorem get6_wide12 (B : Nat) (st : St) (w : World) (h : Rdr w B st) (hl : st.bs.length ≤ 100000) (hm : Len5 w) (hBg : B ≠ 0) :
    Calls Tryz.prog 169 #[.pointer (some ⟨B, 0, none⟩), .int .i64 2] w (Got6 w B (getS 2 st).1 (getS 2 st).2) := by
  have l1 := textS_left st 65535
  have f1 := textS_few6 st 65535
  rcases h1 : textS st 65535 with ⟨s1, nm⟩
  rw [h1] at l1 f1
  have l2 := textS_left s1 65535
  have f2 := textS_few6 s1 65535
  rcases h2 : textS s1 65535 with ⟨s2, hs⟩
  rw [h2] at l2 f2
  have l3 := textS_left s2 65535
  have f3 := textS_few6 s2 65535
  rcases h3 : textS s2 65535 with ⟨s3, ml⟩
  rw [h3] at l3 f3
  have l4 := truthS_left6 s3
  rcases h4 : truthS s3 with ⟨s4, dis⟩
  rw [h4] at l4
  have f5 := rowS_sizes6 s4 65535 65535
  rcases h5 : rowS s4 65535 65535 with ⟨s5, gs⟩
  rw [h5] at f5
  dsimp only at l1 l2 l3 l4 f1 f2 f3 f5
  rw [getS_two h1 h2 h3 h4 h5]
  exact get6_two B st w h (by omega) hm hBg _ _ _ _ _ _ _ _ _ _ _ h1 h2 h3 h4 h5 rfl (by omega) (by omega) (by omega) (by omega) (by omega) (by omega) (by omega) (fun s hs => by have := f5 s hs; omega)
structure Us.Wide (u : Us) : Prop where
  nm : u.nm.size ≤ 100000
  hs : u.hs.size ≤ 100000
  ml : u.ml.size ≤ 100000
  all : ∀ s ∈ u.gs, s.size ≤ 100000
theorem getS_wide12 (st : St) (hl : st.bs.length ≤ 100000) : (getS 2 st).2.Wide := by
  have l1 := textS_left st 65535
  have f1 := textS_few6 st 65535
  rcases h1 : textS st 65535 with ⟨s1, nm⟩
  rw [h1] at l1 f1
  have l2 := textS_left s1 65535
  have f2 := textS_few6 s1 65535
  rcases h2 : textS s1 65535 with ⟨s2, hs⟩
  rw [h2] at l2 f2
  have l3 := textS_left s2 65535
  have f3 := textS_few6 s2 65535
  rcases h3 : textS s2 65535 with ⟨s3, ml⟩
  rw [h3] at l3 f3
  have l4 := truthS_left6 s3
  rcases h4 : truthS s3 with ⟨s4, dis⟩
  rw [h4] at l4
  have f5 := rowS_sizes6 s4 65535 65535
  rcases h5 : rowS s4 65535 65535 with ⟨s5, gs⟩
  rw [h5] at f5
  dsimp only at l1 l2 l3 l4 f1 f2 f3 f5
  rw [← mk6_size] at f1 f2 f3
  rw [getS_two h1 h2 h3 h4 h5]
  exact ⟨by show (mk6 nm).size ≤ _; omega, by show (mk6 hs).size ≤ _; omega, by show (mk6 ml).size ≤ _; omega, fun s hs => by have := f5 s hs; omega⟩
theorem getS2_bare12 (st : St) : nrm11 (getS 2 st).2 = (getS 2 st).2 := by
  rcases h1 : textS st 65535 with ⟨s1, nm⟩
  rcases h2 : textS s1 65535 with ⟨s2, hs⟩
  rcases h3 : textS s2 65535 with ⟨s3, ml⟩
  rcases h4 : truthS s3 with ⟨s4, dis⟩
  rcases h5 : rowS s4 65535 65535 with ⟨s5, gs⟩
  rw [getS_two h1 h2 h3 h4 h5]
  rfl
def Got12 (w : World) (B : Nat) (st : St) (e : Ending) (w' : World) : Prop :=
  ∃ u : Us, e = .returned u.v ∧ nrm11 u = tell12 st ∧ u.Wide ∧ w'.ownsRow w.heap.size 9 1 (.slice u.ga u.gs.length u.gc) u.gs.length (textCells u.gs) ∧ Did w B (getS 2 st).1 w'
theorem ownsRow_up12 {w : World} {b e size n : Nat} {v : Value} {xs : List Value} (h : w.ownsRow 0 e size v n xs) (hk : ∀ k, v.ownBlock = some k → b ≤ k) : w.ownsRow b e size v n xs := ownsRow_high11 h hk
theorem get12_calls (B : Nat) (st : St) (w : World) (h : Rdr w B st) (hl : st.bs.length ≤ 100000) (hm : Len5 w) (hBg : B ≠ 0) :
    Calls Tryz.prog 169 #[.pointer (some ⟨B, 0, none⟩), .int .i64 2] w (Got12 w B st) := by
  have h6 := get6_wide12 B st w h hl hm hBg
  have hw := getS_wide12 st hl
  have hb := getS2_bare12 st
  have ht : tell12 st = if (getS 2 st).1.e = 0 then (getS 2 st).2 else zeroU := rfl
  unfold Got12
  rw [ht]
  clear ht
  generalize getS 2 st = q at *
  obtain ⟨s1, u⟩ := q
  dsimp only at *
  refine h6.mono fun e w' ⟨A, c, he, ho, hn, hd⟩ => ?_
  by_cases h0 : s1.e = 0
  · rw [if_pos h0] at he ⊢
    exact ⟨{ u with ga := A, gc := c }, he, hb, ⟨hw.nm, hw.hs, hw.ml, hw.all⟩, ownsRow_up12 ho hn, hd⟩
  · rw [if_neg h0] at he ⊢
    exact ⟨zeroU, he, rfl, ⟨Nat.zero_le _, Nat.zero_le _, Nat.zero_le _, fun s hs => by cases hs⟩, World.ownsRow_nil _ _ _ _, hd⟩

theorem rowGo_few12 (long : Int) : ∀ (k : Nat) (st : St) (acc : List ByteArray), (rowGo long k st acc).2.length ≤ acc.length + k
  | 0, st, acc => Nat.le_refl _
  | k + 1, st, acc => by
    unfold rowGo
    split
    · exact Nat.zero_le _
    · have := rowGo_few12 long k (textS st long).1 (acc ++ [⟨(textS st long).2.toArray⟩])
      rw [List.length_append] at this
      simp only [List.length_cons, List.length_nil] at this
      omega
theorem row_few12 (st : St) (m l : Int) (hm : m ≤ 1000) : (rowS st m l).2.length ≤ 1000 := by
  unfold rowS
  have h1 := rowGo_few12 l (lengthS st m).2 (lengthS st m).1 []
  have h2 : (lengthS st m).2 ≤ 1000 := by
    unfold lengthS
    split
    · exact Nat.zero_le _
    · dsimp only
      omega
  have h3 : ([] : List ByteArray).length = 0 := rfl
  omega

/-! ### Part by part -/
set_option maxRecDepth 100000 in
set_option maxHeartbeats 1000000 in
theorem rschema12_calls (B : Nat) (st : St) (w : World) (h : Rdr w B st) (hl : st.bs.length ≤ 100000) :
    Calls Tryz.prog 101 #[.pointer (some ⟨B, 0, none⟩)] w (Void w B (schema12 st)) := by
  have HN := Lib.hid (rbyte_calls B st w h (by omega))
  obtain ⟨s0, hs0⟩ : ∃ s0, s0 = schema12 st := ⟨_, rfl⟩
  have HS : Hid (s0 = if (numS st 1).2 = 2 then (numS st 1).1 else failS (numS st 1).1 6) := hs0
  rw [← hs0]
  clear hs0 h hl
  generalize (numS st 1).2 = x at *
  generalize (numS st 1).1 = s1 at *
  go_enter Tryz.func101, Tryz.ntmps101
  go_wp2_with fail
  with_reducible refine HN.out.mono ?_
  rintro e w1 ⟨rfl, hd⟩
  have HD := Lib.hid hd
  clear hd HN
  by_cases hx : x = 2
  · have hs := HS.out
    rw [if_pos hx] at hs
    subst hx
    subst hs
    clear HS
    go_wp2
    go_end0
    exact ⟨rfl, HD.out⟩
  · have hs := HS.out
    rw [if_neg hx] at hs
    have hz : ((x : Int) != 2) = true := by simp; omega
    have HF := Lib.hid (fail_calls B s1 6 w1 HD.out.rdr)
    rw [← hs] at HF
    clear hs HS
    go_wp2_with fail
    with_reducible refine HF.out.mono ?_
    rintro e w2 ⟨rfl, hd2⟩
    have HD2 := Lib.hid (HD.out.next hd2)
    clear hd2 HF HD
    go_wp2
    go_end0
    exact ⟨rfl, HD2.out⟩

set_option maxRecDepth 100000 in
set_option maxHeartbeats 1000000 in
theorem rcount12_calls (B : Nat) (st : St) (w : World) (h : Rdr w B st) (hl : st.bs.length ≤ 100000) :
    Calls Tryz.prog 104 #[.pointer (some ⟨B, 0, none⟩)] w fun e w' => e = .returned (.int .i64 (count12 st).2) ∧ Did w B (count12 st).1 w' := by
  have HN := Lib.hid (rtwo_calls B st w h (by omega))
  have hx2 : (numS st 2).2 < 65536 := numS_lt st 2
  obtain ⟨c, hc⟩ : ∃ c, c = count12 st := ⟨_, rfl⟩
  have HS : Hid (c = if 12 < (numS st 2).2 then (failS (numS st 2).1 7, 0) else ((numS st 2).1, (numS st 2).2)) := hc
  rw [← hc]
  clear hc h hl
  generalize (numS st 2).2 = x at *
  generalize (numS st 2).1 = s1 at *
  obtain ⟨s2, n⟩ := c
  go_enter Tryz.func104, Tryz.ntmps104
  go_wp2_with fail
  with_reducible refine HN.out.mono ?_
  rintro e w1 ⟨rfl, hd⟩
  have HD := Lib.hid hd
  clear hd HN
  by_cases hx : 12 < x
  · have hs := HS.out
    rw [if_pos hx] at hs
    have hz : (x : Int) > 12 := by omega
    obtain ⟨h1, h2⟩ := Prod.mk.inj hs
    have HF := Lib.hid (fail_calls B s1 7 w1 HD.out.rdr)
    rw [← h1] at HF
    subst h2
    clear hs HS h1
    go_wp2_with fail
    with_reducible refine HF.out.mono ?_
    rintro e w2 ⟨rfl, hd2⟩
    have HD2 := Lib.hid (HD.out.next hd2)
    clear hd2 HF HD
    go_wp2
    go_ret
    exact ⟨rfl, HD2.out⟩
  · have hs := HS.out
    rw [if_neg hx] at hs
    have hz : ¬ (x : Int) > 12 := by omega
    obtain ⟨h1, h2⟩ := Prod.mk.inj hs
    subst h1
    subst h2
    clear hs HS
    go_wp2
    go_ret
    exact ⟨rfl, HD.out⟩

theorem users_ne_reader12 {w : World} {B b0 : Nat} {st : St} {v : Value} {n : Nat} {xs : List Value} (hr : Rdr w B st) (h : w.ownsRow b0 37 5 v n xs) : v.ownBlock ≠ some B := by
  obtain ⟨u, hb, _⟩ := hr
  rcases h.2 with ⟨rfl, _⟩ | ⟨g, cap, cur, rfl, _, hg, _⟩
  · simp [Value.ownBlock]
  · intro he
    have : g = B := by simpa [Value.ownBlock] using he
    subst this
    have := hb.symm.trans hg
    simp at this
theorem Rdr.beside12 {w w' : World} {B b0 : Nat} {st : St} {v : Value} {n : Nat} {xs : List Value} (hr : Rdr w B st) (ho : w.ownsRow b0 37 5 v n xs) (ht : Turns (fun i => v.ownBlock = some i) w w') : Rdr w' B st := by
  have hne := users_ne_reader12 hr ho
  have hB := hr.lt
  obtain ⟨u, hu, hru⟩ := hr
  refine ⟨u, (ht.block B hB hne).trans hu, ?_⟩
  rcases hru with h0 | ⟨g, off, cc, rfl, h1, h2, h3, h4, hbk, h5⟩
  · exact .inl h0
  · have hgn : v.ownBlock ≠ some g := by
      obtain ⟨cur, fr, hcur⟩ := hbk
      intro he
      rcases ho.2 with ⟨hv, _⟩ | ⟨g', cap', cur', hv, _, hg', _⟩
      · rw [hv] at he; simp [Value.ownBlock] at he
      · rw [hv] at he
        have : g' = g := by simpa [Value.ownBlock] using he
        subst this
        have := hcur.symm.trans hg'
        simp at this
    exact .inr ⟨g, off, cc, rfl, h1, h2, Nat.lt_of_lt_of_le h3 ht.size, h4, hbk.keep ht hgn, fun j hj => (ht.cell (p := ⟨g, off + j, none⟩) h3 hgn).trans (h5 j hj)⟩
theorem texts_beside12 {w w' : World} {b b0 : Nat} {v u : Value} {n m : Nat} {xs ys : List Value} (h : w.ownsRow b 9 1 u m ys) (ho : w.ownsRow b0 37 5 v n xs) (ht : Turns (fun i => v.ownBlock = some i) w w') : w'.ownsRow b 9 1 u m ys := by
  refine ⟨h.1, ?_⟩
  rcases h.2 with h0 | ⟨g, cap, cur, rfl, hb, hg, rest⟩
  · exact .inl h0
  · refine .inr ⟨g, cap, cur, rfl, hb, (ht.block g (Array.getElem?_eq_some_iff.1 hg).1 fun he => ?_).trans hg, rest⟩
    rcases ho.2 with ⟨hv, _⟩ | ⟨g', cap', cur', hv, _, hg', _⟩
    · rw [hv] at he; simp [Value.ownBlock] at he
    · rw [hv] at he
      have : g' = g := by simpa [Value.ownBlock] using he
      subst this
      have := hg'.symm.trans hg
      simp at this

structure Mem12 (b : Nat) (w : World) (v : Value) (n : Nat) (l l2 : List Us) : Prop where
  same : l2.map nrm11 = l
  row : w.ownsRow b 37 5 v n (ucells11 l2)
  wide : ∀ u ∈ l2, u.Wide
  txt : ∀ u ∈ l2, w.ownsRow b 9 1 (.slice u.ga u.gs.length u.gc) u.gs.length (textCells u.gs)
theorem Mem12.turns {S : Nat → Prop} {b n : Nat} {w w' : World} {v : Value} {l l2 : List Us} (h : Mem12 b w v n l l2) (ht : Turns S w w') (hS : ∀ k, b ≤ k → ¬ S k) : Mem12 b w' v n l l2 :=
  ⟨h.same, owns_turns h.row (Nat.le_refl _) ht hS, h.wide, fun u hu => owns_turns (h.txt u hu) (Nat.le_refl _) ht hS⟩
theorem Mem12.ok {b n : Nat} {w : World} {v : Value} {l l2 : List Us} (h : Mem12 b w v n l l2) : ∀ u ∈ l2, u.Ok w := fun u hu => by
  obtain ⟨f1, f2, f3, f4⟩ := owns_facts6 (h.txt u hu) rfl
  have hw := h.wide u hu
  exact ⟨f1, Nat.le_trans hw.nm (by omega), Nat.le_trans hw.hs (by omega), Nat.le_trans hw.ml (by omega), f2, f3, f4, fun s hs => Nat.le_trans (hw.all s hs) (by omega)⟩
def Users12 (w : World) (B : Nat) (n : Nat) (st : St) (l : List Us) (e : Ending) (w' : World) : Prop :=
  ∃ v l2, e = .returned v ∧ Mem12 w.heap.size w' v n l l2 ∧ Did w B st w'

set_option maxRecDepth 100000 in
set_option maxHeartbeats 4000000 in
theorem rusers12_calls (B n : Nat) (st : St) (w : World) (h : Rdr w B st) (hl : st.bs.length ≤ 100000) (hn : n ≤ 12) (hm : Len5 w) (hBg : B ≠ 0) :
    Calls Tryz.prog 103 #[.pointer (some ⟨B, 0, none⟩), .int .i64 n] w (Users12 w B n (users12 n st).1 (users12 n st).2) := by
  obtain ⟨i0, hi, hz0, hz1, hz2⟩ := info_parts infoUser11
  have hB := h.lt
  have HR := Lib.hid (Did.refl h)
  have HM : Hid (∀ W s, Did w B s W → Len5 W) := fun W s hd => by
    obtain ⟨hlt, m, hcm⟩ := hm
    exact ⟨Nat.lt_of_lt_of_le hlt hd.2.size, m, (hd.2.cell (p := ⟨0, 0, none⟩) hlt (fun e => hBg e.symm)).trans hcm⟩
  have HBG := Lib.hid hBg
  obtain ⟨us, hus⟩ : ∃ us, us = users12 n st := ⟨_, rfl⟩
  rw [← hus]
  have HUS : Hid (∃ acc : List Us, acc.length = 0 ∧ st.bs.length ≤ 100000 ∧ us = ((users12 (n - 0) st).1, acc ++ (users12 (n - 0) st).2)) := ⟨[], rfl, hl, hus⟩
  clear hus h hl hm hBg
  go_enter Tryz.func103, Tryz.ntmps103
  go_wp2
  go_loopg [5, 7] n (fun gg s5 s7 wr => ∃ (k : Nat) (acc l2 : List Us) (s1 : St), k ≤ n ∧ n - k ≤ gg ∧ s7 = .int .i64 k ∧ Hid (acc.length = k ∧ s1.bs.length ≤ 100000 ∧ us = ((users12 (n - k) s1).1, acc ++ (users12 (n - k) s1).2)) ∧ Hid (Did w B s1 wr) ∧ Hid (Mem12 w.heap.size wr s5 k acc l2))
  case atStart =>
    obtain ⟨acc, h0, h1, h2⟩ := HUS.out
    have : acc = [] := List.eq_nil_of_length_eq_zero h0
    subst this
    exact ⟨0, [], [], st, Nat.zero_le _, by omega, rfl, ⟨rfl, h1, h2⟩, HR.out, rfl, World.ownsRow_nil _ _ _ _, (fun _ h => nomatch h), (fun _ h => nomatch h)⟩
  case round =>
    clear HUS HR
    obtain ⟨k, acc, l2, s1, hk, hg, rfl, HAC, HD, HO⟩ := hrel
    by_cases hlt : k < n
    · have hltz : (k : Int) < (n : Int) := by omega
      have hac := HAC.out
      rw [show n - k = (n - (k + 1)) + 1 by omega] at hac
      have HAC2 : Hid ((acc ++ [tell12 s1]).length = k + 1 ∧ (getS 2 s1).1.bs.length ≤ 100000 ∧ us = ((users12 (n - (k + 1)) (getS 2 s1).1).1, (acc ++ [tell12 s1]) ++ (users12 (n - (k + 1)) (getS 2 s1).1).2)) :=
        ⟨by rw [List.length_append, hac.1]; rfl, Nat.le_trans (getS2_left12 s1) hac.2.1, by rw [List.append_assoc]; exact hac.2.2⟩
      have HG := Lib.hid (get12_calls B s1 wr HD.out.1 hac.2.1 (HM.out wr s1 HD.out) HBG.out)
      clear hac HAC
      go_wp2_with fail
      with_reducible refine HG.out.mono ?_
      rintro e w2 ⟨u, rfl, hnu, hwu, htu, hd⟩
      have HD2 := Lib.hid (HD.out.next hd)
      have HO2 : Hid (Mem12 w.heap.size w2 u5 k acc l2) := HO.out.turns hd.2 (fun j hj he => by have he' : j = B := he; omega)
      have hszw := HD.out.2.size
      have HTU := Lib.hid (ownsRow_low10 htu hszw)
      have hsz := HD2.out.2.size
      have HNU := Lib.hid hnu
      have HWU := Lib.hid hwu
      have HR2 := Lib.hid HO2.out.row
      clear hd HG HD HO htu hnu hwu
      obtain ⟨nm, hs, ml, dis, ga, gs, gc⟩ := u
      unfold Us.v Us.cells
      dsimp only
      generalize hgl : gs.length = gl at *
      go_wp2_with (first
        | (at_builtin; refine wpList_append_own _ rfl _ _ 27 rfl w.heap.size 37 i0 (.agg #[.string ⟨#[]⟩, .string ⟨#[]⟩, .string ⟨#[]⟩, .bool false, .slice none 0 0]) 5 80 Tryz.underlying27 hi hz0 hz1 hz2 rfl (by decide) _ _ _ rfl (HR2.out.alloc _) ⟨w2.heap.size, 0, none⟩ 1 1 [.string nm, .string hs, .string ml, .bool dis, .slice ga gl gc] rfl rfl
            (fun j u hu => by rw [Addr.add_lit, Nat.zero_add, World.cell?_alloc_at _ _ _ _ rfl]; simpa using hu) (by simp [Value.oneCell']) (by unfold maxLen; omega) (by omega) (by simp; omega) ?_
           intro v' w3 hown' hgrow _
           have HO3 := Lib.hid hown'
           have HG3 := Lib.hid hgrow
           clear hown' hgrow)
        | fail)
      go_roundg (n - (k + 1))
      case measure => omega
      case rel =>
        have ht0 : Turns (fun i => u5.ownBlock = some i) w2 w3 := (((Turns.refl _ w2).alloc _).grown HG3.out (fun k hk _ => hk))
        refine ⟨k + 1, acc ++ [tell12 s1], l2 ++ [⟨nm, hs, ml, dis, ga, gs, gc⟩], (getS 2 s1).1, by omega, by omega, by go_num, HAC2, ?_, ?_⟩
        · exact Lib.hid ⟨HD2.out.1.beside12 HO2.out.row ht0, HD2.out.2.next ht0 (fun i hi he => by have := (HO2.out.row.lt i he).1; omega)⟩
        · refine Lib.hid ⟨by rw [List.map_append, HO2.out.same, List.map_singleton, HNU.out], ?_, fun x hx => ?_, fun x hx => ?_⟩
          · rw [ucells11_snoc]
            subst hgl
            exact HO3.out
          · rcases List.mem_append.1 hx with hx | hx
            · exact HO2.out.wide x hx
            · rw [List.mem_singleton.1 hx]; exact HWU.out
          · rcases List.mem_append.1 hx with hx | hx
            · exact texts_beside12 (HO2.out.txt x hx) HO2.out.row ht0
            · rw [List.mem_singleton.1 hx]
              subst hgl
              exact texts_beside12 HTU.out HO2.out.row ht0
    · have hltz : ¬ (k : Int) < (n : Int) := by omega
      obtain rfl : k = n := by omega
      have hac := HAC.out
      rw [Nat.sub_self] at hac
      have e1 : us.1 = s1 := by rw [hac.2.2]; rfl
      have e2 : us.2 = acc := by rw [hac.2.2]; exact List.append_nil acc
      have HF : Hid (Users12 w B k us.1 us.2 (.returned u5) wr) := ⟨u5, l2, rfl, by rw [e2]; exact HO.out, by rw [e1]; exact HD.out⟩
      clear hac e1 e2 HAC HO HD
      go_wp2
      go_ret
      exact HF.out
end Go.Proofs.YtmcomnocpibiiaaGreatDoor


namespace Go.Proofs.YtmcomnocpibiiaaGreatDoor
open Go.RowKit Go.Maps Go.Sort Go.Shelf

def FRead12 (w : World) (r : Int × List Us × List ByteArray) (e : Ending) (w' : World) : Prop :=
 (r.1 ≠ 0 ∧ e = .returned (.tuple #[.pointer none, .int .i64 r.1]) ∧ Below w.heap.size w w') ∨
 (r.1 = 0 ∧ ∃ D P M Gr A L S k, e = .returned (.tuple #[.pointer (some ⟨D, 0, none⟩), .int .i64 0]) ∧ Own11 w w' D P M Gr A L S ∧ St11 A L S r.2.1 r.2.2 k ∧ k ≤ 200)
theorem St11.nrm12 {A : Acc11} {L : Row7} {S : Grs10} {l l2 : List Us} {G : List ByteArray} {k : Nat} (h : St11 A L S l2 G k) (e : l2.map nrm11 = l) : St11 A L S l G k := by
 subst e
 unfold St11 at h ⊢
 rw [pl_nrm11, List.length_map]
 exact h
theorem nof12_calls (A A2 : Option Addr) (c c2 n m : Nat) (l l2 : List Us) (G : List ByteArray) (w : World) (he : l2.map nrm11 = l) (hl : n = l.length) (hn : n ≤ 1000) (hr : RdU7 w A l2) (ho : ∀ u ∈ l2, u.Ok w) (hm : m = G.length) (hm1 : m ≤ 1000) (hg : RdS w A2 G) (hgs : ∀ g ∈ G, g.size ≤ 9223372036854775807) (h5 : Len5 w) :
  Calls Tryz.prog 27 #[.slice A n c, .slice A2 m c2] w (Of11 l G w) := by
 have hx : ofD11 l2 G = ofD11 l G := by rw [← he, of_nrm11]
 refine (nof11_calls A A2 c c2 n m l2 G w (by rw [hl, ← he, List.length_map]) hn hr ho hm hm1 hg hgs h5).mono fun e w' h => ?_
 unfold Of11 at h ⊢
 rw [hx] at h
 rcases h with h | ⟨h0, D, P, M, Gr, A, L, S, k, h1, h2, h3, h4⟩
 ·
  exact .inl h
 ·
  exact .inr ⟨h0, D, P, M, Gr, A, L, S, k, h1, h2, h3.nrm12 he, h4⟩

set_option maxRecDepth 100000 in
set_option maxHeartbeats 8000000 in
theorem fread12_calls (u : Value) (bs : List UInt8) (w : World) (hu : Rd w u bs) (hl : bs.length ≤ 100000) (hm : Len5 w) :
  Calls Tryz.prog 35 #[u] w (FRead12 w (read12 bs)) := by
 have HOF := Lib.hid (of_calls u bs w hu (by omega))
 have HM := Lib.hid hm
 have l1 := schema_left12 ⟨bs, 0⟩
 have l0 : (⟨bs, 0⟩ : St).bs.length ≤ 100000 := hl
 have HSC : Hid (∀ W R, Rdr W R ⟨bs, 0⟩ → Calls Tryz.prog 101 #[.pointer (some ⟨R, 0, none⟩)] W (Void W R (schema12 ⟨bs, 0⟩))) := fun W R hr => rschema12_calls R _ W hr l0
 unfold read12
 generalize schema12 ⟨bs, 0⟩ = s0 at *
 have l2 := rowS_left12 s0 6 12
 have z2 := rowS_sizes6 s0 6 12
 have HRW : Hid (∀ W R, Rdr W R s0 → Calls Tryz.prog 102 #[.pointer (some ⟨R, 0, none⟩), .int .i64 6, .int .i64 12] W (Rows6 W R (rowS s0 6 12).1 (rowS s0 6 12).2)) := fun W R hr => rrow6_calls R s0 6 12 W hr (by have : s0.bs.length ≤ 100000 := Nat.le_trans l1 l0; omega)
 have hgl : (rowS s0 6 12).2.length ≤ 1000 := row_few12 s0 6 12 (by omega)
 unfold tail12
 generalize rowS s0 6 12 = g at *
 obtain ⟨s1, G⟩ := g
 dsimp only at *
 have hc := count_few12 s1
 have l3 := count_left12 s1
 have HCT : Hid (∀ W R, Rdr W R s1 → Calls Tryz.prog 104 #[.pointer (some ⟨R, 0, none⟩)] W fun e w' => e = .returned (.int .i64 (count12 s1).2) ∧ Did W R (count12 s1).1 w') := fun W R hr => rcount12_calls R s1 W hr (by omega)
 generalize hcs : count12 s1 = cs at *
 obtain ⟨s2, n⟩ := cs
 dsimp only at *
 clear hcs
 have hln := users_length12 n s2
 have HUR : Hid (∀ W R, Rdr W R s2 → Len5 W → R ≠ 0 → Calls Tryz.prog 103 #[.pointer (some ⟨R, 0, none⟩), .int .i64 n] W (Users12 W R n (users12 n s2).1 (users12 n s2).2)) := fun W R hr hm hR => rusers12_calls R n s2 W hr (by omega) hc hm hR
 generalize hus : users12 n s2 = us at *
 obtain ⟨s3, l⟩ := us
 dsimp only at *
 clear hus
 have HER : Hid (∀ W R, Rdr W R s3 → Calls Tryz.prog 105 #[.pointer (some ⟨R, 0, none⟩)] W fun e w' => e = .returned (.int .i64 s3.e) ∧ W = w') := fun W R hr => rerr_calls R s3 W hr
 have HEN : Hid (∀ W R, Rdr W R s3 → Calls Tryz.prog 106 #[.pointer (some ⟨R, 0, none⟩)] W fun e w' => e = .returned (.int .i64 (endS s3)) ∧ W = w') := fun W R hr => rend_calls R s3 W hr
 obtain ⟨m, hmg⟩ : ∃ m, m = G.length := ⟨_, rfl⟩
 have hgz : ∀ x ∈ G, x.size ≤ 9223372036854775807 := fun x hx => by have := z2 x hx; omega
 have HNO : Hid (∀ A A2 c c2 l2 W, l2.map nrm11 = l → RdU7 W A l2 → (∀ u ∈ l2, u.Ok W) → RdS W A2 G → Len5 W → Calls Tryz.prog 27 #[.slice A n c, .slice A2 m c2] W (Of11 l G W)) := fun A A2 c c2 l2 W he hr ho hg h5 => nof12_calls A A2 c c2 n m l l2 G W he hln.symm (by omega) hr ho hmg (by omega) hg hgz h5
 have HLN : Hid (l.length = n) := hln
 rw [← hmg] at hgl
 have HMG := Lib.hid hmg
 obtain ⟨out, hout⟩ : ∃ out, out = code12 G (s3, l) := ⟨_, rfl⟩
 have HO : Hid (out = if s3.e ≠ 0 then (s3.e, [], []) else if ofD11 l G ≠ 0 then (ofD11 l G, [], []) else if endS s3 ≠ 0 then (endS s3, [], []) else (0, l, G)) := hout
 rw [← hout]
 obtain ⟨A0, c0, rfl⟩ := hu.shape
 clear hout hu hm hl l0 l1 l2 l3 z2 hgz hln hc hmg
 unfold Of11 at HNO
 generalize ofD11 l G = oe at *
 generalize endS s3 = en at *
 go_enter Tryz.func35, Tryz.ntmps35
 go_wp2_with fail
 with_reducible refine HOF.out.mono ?_
 rintro e w1 ⟨R, hR, rfl, hr, ht⟩
 have hb1 := ht.below (fun _ f => f.elim)
 have HB1 := Lib.hid hb1
 have HR1 := Lib.hid (Did.refl hr)
 have hRM : R ≠ 0 := by have := HM.out.1; omega
 have HRM := Lib.hid hRM
 have HM1 : Hid (∀ W s, Did w1 R s W → Len5 W) := fun W s hd => by
  obtain ⟨hlt, m, hcm⟩ := HM.out.later HB1.out
  exact ⟨Nat.lt_of_lt_of_le hlt hd.2.size, m, (hd.2.cell (p := ⟨0, 0, none⟩) hlt (fun e => hRM e.symm)).trans hcm⟩
 have HBW : Hid (∀ W s, Did w1 R s W → Below w.heap.size w W) := fun W s hd => ((ht.mono (S' := fun i => i = R) (fun _ _ f => f.elim)).next hd.2 (fun _ _ h => h)).below (fun i hi => by omega)
 clear hr ht hb1 HOF hRM HM HB1
 go_wp2_with fail
 with_reducible refine (HSC.out w1 R HR1.out.rdr).mono ?_
 rintro e w2 ⟨rfl, hd⟩
 have HR2 := Lib.hid (HR1.out.next hd)
 clear hd HSC HR1
 go_wp2_with fail
 with_reducible refine (HRW.out w2 R HR2.out.rdr).mono ?_
 rintro e w3 ⟨Ag, cg, rfl, hog, hng, hd⟩
 rw [← HMG.out] at hog hng ⊢
 have HR3 := Lib.hid (HR2.out.next hd)
 have hR2 : R < w2.heap.size := HR2.out.rdr.lt
 have HG3 := Lib.hid (ownsRow_up12 hog hng)
 clear hd hog hng HRW
 go_wp2_with fail
 with_reducible refine (HCT.out w3 R HR3.out.rdr).mono ?_
 rintro e w4 ⟨rfl, hd⟩
 have HR4 := Lib.hid (HR3.out.next hd)
 have HG4 := Lib.hid (owns_turns HG3.out (Nat.le_refl _) hd.2 (fun j hj he => by have he' : j = R := he; omega))
 clear hd HCT HR3 HG3 HR2
 go_wp2_with fail
 with_reducible refine (HUR.out w4 R HR4.out.rdr (HM1.out w4 _ HR4.out) HRM.out).mono ?_
 rintro e w5 ⟨v, l2, rfl, hmem, hd⟩
 have HR5 := Lib.hid (HR4.out.next hd)
 have hg5 := owns_turns HG4.out (Nat.zero_le _) hd.2 (fun j hj he => by have he' : j = R := he; omega)
 have HG5 : Hid (RdS w5 Ag G) := (owns_facts6 hg5 HMG.out).1
 obtain ⟨A, c, rfl⟩ := owns_shape (ownsRow_low10 hmem.row (Nat.zero_le _))
 have HU5 : Hid (RdU7 w5 A l2) := owns_users11 hmem.row (by rw [← HLN.out, ← hmem.same, List.length_map])
 have HOK := Lib.hid hmem.ok
 have HSM := Lib.hid hmem.same
 clear hd hmem hg5 HUR HR4 HG4 hR2
 go_wp2_with fail
 with_reducible refine (HER.out w5 R HR5.out.rdr).mono ?_
 rintro e w6 ⟨rfl, rfl⟩
 clear HER
 by_cases h0 : s3.e = 0
 case neg =>
  have hz : (s3.e != 0) = true := by simpa using h0
  have ho := HO.out
  rw [if_pos h0] at ho
  have HF : Hid (FRead12 w out (.returned (.tuple #[.pointer none, .int .i64 s3.e])) w5) := .inl ⟨by rw [ho]; exact h0, by rw [ho], HBW.out w5 _ HR5.out⟩
  clear ho HO h0
  go_wp2
  go_ret2
  exact HF.out
 have hz : (s3.e != 0) = false := by simpa using h0
 have ho := HO.out
 rw [if_neg (by simpa using h0)] at ho
 have HO2 := Lib.hid ho
 have HOU5 := Lib.hid (HNO.out A Ag c cg l2 w5 HSM.out HU5.out HOK.out HG5.out (HM1.out w5 _ HR5.out))
 clear ho HO h0 HNO
 go_wp2_with fail
 with_reducible refine HOU5.out.mono ?_
 rintro e w7 hcase
 clear HOU5
 rcases hcase with ⟨hne, rfl, hb⟩ | ⟨h0, D, P, M, Gr, Aa, L, S, k, rfl, hown, hst, hk⟩
 ·
  have ho := HO2.out
  rw [if_pos hne] at ho
  have hx1 : (oe != 0) = true := by simpa using hne
  have HF : Hid (FRead12 w out (.returned (.tuple #[.pointer none, .int .i64 oe])) w7) := .inl ⟨by rw [ho]; exact hne, by rw [ho], below_next (HBW.out w5 _ HR5.out) hb⟩
  clear ho HO2 hne hb
  go_wp2
  go_ret2
  exact HF.out
 subst h0
 have ho := HO2.out
 rw [if_neg (by simp)] at ho
 have HO3 := Lib.hid ho
 have HEN7 := Lib.hid (HEN.out w7 R (HR5.out.rdr.still (Turns.of_below hown.below _)))
 have HOW : Hid (Own11 w w7 D P M Gr Aa L S) := hown.base (HBW.out w5 _ HR5.out)
 have HST := Lib.hid hst
 clear ho HO2 hown hst HEN HU5
 go_wp2_with fail
 with_reducible refine HEN7.out.mono ?_
 rintro e w8 ⟨rfl, rfl⟩
 clear HEN7
 by_cases h0 : en = 0
 ·
  have hz2 : (en != 0) = false := by simpa using h0
  have ho := HO3.out
  rw [if_neg (by simpa using h0)] at ho
  have HF : Hid (FRead12 w out (.returned (.tuple #[.pointer (some ⟨D, 0, none⟩), .int .i64 0])) w7) := .inr ⟨by rw [ho], D, P, M, Gr, Aa, L, S, k, rfl, HOW.out, by rw [ho]; exact HST.out, hk⟩
  clear ho HO3 h0
  go_wp2
  go_ret2
  exact HF.out
 ·
  have hz2 : (en != 0) = true := by simpa using h0
  have ho := HO3.out
  rw [if_pos h0] at ho
  have HF : Hid (FRead12 w out (.returned (.tuple #[.pointer none, .int .i64 en])) w7) := .inl ⟨by rw [ho]; exact h0, by rw [ho], HOW.out.below⟩
  clear ho HO3 h0
  go_wp2
  go_ret2
  exact HF.out
end Go.Proofs.YtmcomnocpibiiaaGreatDoor


namespace Go.Proofs.YtmcomnocpibiiaaGreatDoor
open Go.RowKit Go.Maps Go.Sort Go.Shelf

def Grows12 (w : World) (B : Nat) (bs : List UInt8) (e : Ending) (w' : World) : Prop := e = .returned (.pointer (some ⟨B, 0, none⟩)) ∧ NW6 w B bs w'
theorem NW6.byte12 {w W : World} {B : Nat} {bs : List UInt8} (xi : Int) (x : Nat) (h : NW6 w B bs W) (ex : xi = x) (hx : x < 256) (hr : bs.length ≤ 500000) :
  Calls Tryz.prog 95 #[.pointer (some ⟨B, 0, none⟩), .int .u8 xi] W (Grows12 w B (bs ++ le x 1)) := by
 subst ex
 obtain ⟨hB, ⟨v, hw, hv⟩, ht⟩ := h
 exact (byte_calls B v bs x W hw hx (by omega)).mono fun e w' ⟨he, hg⟩ => ⟨he, hg.nw6 hB hv ht⟩
theorem NW6.two12 {w W : World} {B : Nat} {bs : List UInt8} (xi : Int) (x : Nat) (h : NW6 w B bs W) (ex : xi = x) (hx : x < 65536) (hr : bs.length ≤ 500000) :
  Calls Tryz.prog 97 #[.pointer (some ⟨B, 0, none⟩), .int .u16 xi] W (Grows12 w B (bs ++ le x 2)) := by
 subst ex
 obtain ⟨hB, ⟨v, hw, hv⟩, ht⟩ := h
 exact (two_calls B v bs x W hw hx (by omega)).mono fun e w' ⟨he, hg⟩ => ⟨he, hg.nw6 hB hv ht⟩
theorem NW6.row12 {w W : World} {B : Nat} {bs : List UInt8} {b c : Nat} {A : Option Addr} (ss : List ByteArray) (h : NW6 w B bs W) (ho : W.ownsRow b 9 1 (.slice A ss.length c) ss.length (textCells ss)) (hl : ss.length ≤ 65535) (hs : ∀ s ∈ ss, s.size ≤ 65535) (hr : bs.length ≤ 500000) :
  Calls Tryz.prog 96 #[.pointer (some ⟨B, 0, none⟩), .slice A ss.length c] W (Grows12 w B (bs ++ rowB ss)) := by
 obtain ⟨hB, ⟨v, hw, hv⟩, ht⟩ := h
 obtain ⟨f1, _, f3, f4⟩ := owns_facts6 ho rfl
 refine (row_calls B v bs A ss.length c ss W hw f3 f4 (by omega) f1 (fun hne a ha => ?_) hs (by omega)).mono fun e w' ⟨he, hg⟩ => ⟨he, hg.nw6 hB hv ht⟩
 rcases ho.2 with ⟨h0, h1⟩ | ⟨g, cap, cur, hv', _, hg, _⟩
 ·
  exact absurd (List.eq_nil_of_length_eq_zero h1) hne
 ·
  injection hv' with hA _ _
  rw [hA] at ha
  injection ha with ha
  subst ha
  rintro (he | he)
  ·
   have he' : g = B := he
   subst he'
   have := hw.1.symm.trans hg
   simp at this
  ·
   rcases hw.2.2 with ⟨hv2, _⟩ | ⟨g', cap', cur', hv2, _, hg', _⟩
   ·
    rw [hv2] at he; simp [Value.ownBlock] at he
   ·
    rw [hv2] at he
    have : g' = g := by simpa [Value.ownBlock] using he
    subst this
    have := hg'.symm.trans hg
    simp at this


theorem plU_us12 (R : RowV W11) : plU11 (R.map us11) = plainR R := by
 unfold plU11 plainR
 rw [List.map_map]
 refine List.map_congr_left fun q _ => ?_
 show ((tx10 q.1).data.toList, (⟨q.2.hs.data.toList, q.2.ml.data.toList, q.2.dis, bl11 (q.2.gs.map tx10)⟩ : U11)) = (q.1, q.2.u)
 rw [tx10_list, bl_tx12]
 rfl
theorem enc_cells12 (N : List (List UInt8)) : N.map encStr = textCells (N.map tx10) := by
 unfold textCells
 rw [List.map_map]
 rfl
section
variable {w0 w : World} {D P M G : Nat} {A : Acc11} {L : Row7} {S : Grs10} {k : Nat}
theorem fall12_calls (ho : Own11 w0 w D P M G A L S) (hg : Good11 A L S k) : Calls Tryz.prog 29 #[.pointer (some ⟨D, 0, none⟩)] w fun e w' =>
  ∃ Aa c l, e = .returned (.slice Aa l.length c) ∧ RdU7 w' Aa l ∧ (∀ u ∈ l, u.Ok w') ∧ plU11 l = tell11 A L S ∧ Below w.heap.size w w' := by
 refine (nall11_calls ho hg).mono fun e w' ⟨v, R, he, hr, hp, hb⟩ => ?_
 have hs := short11 hg
 have hr0 := hr.low (Nat.zero_le _)
 obtain ⟨Aa, c, rfl⟩ := hr0.rw.us.shape
 obtain ⟨h1, h2⟩ := rd_us11 hr0.rw.us
 refine ⟨Aa, c, R.map us11, by rw [← h1]; exact he, h2, fun u hu => ?_, by rw [plU_us12]; exact hp, hb⟩
 obtain ⟨q, hq, rfl⟩ := List.mem_map.1 hu
 have hm : (q.1, q.2.u) ∈ tell11 A L S := by rw [← hp]; exact List.mem_map.2 ⟨q, hq, rfl⟩
 have a2 := hs.hs _ hm
 have a3 := hs.ml _ hm
 exact us11_ok (hr0.2 q hq) (hs.nm _ hm) (by rw [← size_list]; exact a2) (by rw [← size_list]; exact a3) (hs.gs _ hm)
theorem fgroups12_calls (ho : Own11 w0 w D P M G A L S) (hg : Good11 A L S k) : Calls Tryz.prog 63 #[.pointer (some ⟨D, 0, none⟩)] w fun e w' =>
  ∃ Aa c, e = .returned (.slice Aa ((names10 S).map tx10).length c) ∧ w'.ownsRow 0 9 1 (.slice Aa ((names10 S).map tx10).length c) ((names10 S).map tx10).length (textCells ((names10 S).map tx10)) ∧ Below w.heap.size w w' := by
 refine (ngroups11_calls ho hg.grp).mono fun e w' ⟨v, he, hr, hb⟩ => ?_
 have hr0 := ownsRow_low10 hr (Nat.zero_le _)
 obtain ⟨Aa, c, rfl⟩ := owns_shape hr0
 rw [enc_cells12] at hr0
 refine ⟨Aa, c, by rw [List.length_map]; exact he, ?_, hb⟩
 rw [List.length_map]
 exact hr0

set_option maxRecDepth 100000 in
set_option maxHeartbeats 4000000 in
theorem fbytes12_calls (ho : Own11 w0 w D P M G A L S) (hg : Good11 A L S k) (h5 : Len5 w) :
  Calls Tryz.prog 34 #[.pointer (some ⟨D, 0, none⟩)] w (Told6 w (folT12 (tell11 A L S) (names10 S))) := by
 have hz := good_of12 hg
 have hmay := may12 hz
 have HAL : Hid (Calls Tryz.prog 29 #[.pointer (some ⟨D, 0, none⟩)] w fun e w' => ∃ Aa c l, e = .returned (.slice Aa l.length c) ∧ RdU7 w' Aa l ∧ (∀ u ∈ l, u.Ok w') ∧ l.map nrm11 = (tell11 A L S).map usOf12 ∧ Below w.heap.size w w') :=
  (fall12_calls ho hg).mono fun e w' ⟨Aa, c, l, h1, h2, h3, h4, h5⟩ => ⟨Aa, c, l, h1, h2, h3, by rw [← usOf_plU12, h4], h5⟩
 have HGR : Hid (∀ W, Below w.heap.size w W → Calls Tryz.prog 63 #[.pointer (some ⟨D, 0, none⟩)] W fun e w' => ∃ Aa c, e = .returned (.slice Aa ((names10 S).map tx10).length c) ∧ w'.ownsRow 0 9 1 (.slice Aa ((names10 S).map tx10).length c) ((names10 S).map tx10).length (textCells ((names10 S).map tx10)) ∧ Below W.heap.size W w') := fun W hb => fgroups12_calls (ho.later hb) hg
 have H5 := Lib.hid h5
 have hgz := hmay.sizes
 have hg6 := hmay.gfew
 unfold folT12
 generalize (names10 S).map tx10 = Gs at *
 have HCH : Hid (∀ l : List Us, l.map nrm11 = (tell11 A L S).map usOf12 → l.length ≤ 12 ∧ (∀ u ∈ l, chk6 2 u = 0) ∧ folB ((tell11 A L S).map usOf12) Gs = folB l Gs) := fun l he => by
  have m2 : May12 l Gs := may12 (by rw [← of_nrm11, he]; exact hz)
  exact ⟨m2.few, m2.all, by rw [← he, folB_nrm12]⟩
 clear hz hmay h5 ho hg
 generalize (tell11 A L S).map usOf12 = T at *
 generalize folB T Gs = out at *
 have HGZ : Hid (∀ g ∈ Gs, g.size ≤ 65535) := fun g h => Nat.le_trans (hgz g h) (by decide)
 have HRL : Hid ((rowB Gs).length ≤ 1000) := by
  have := textsB_length12 hgz
  show (le Gs.length 2 ++ textsB Gs).length ≤ 1000
  rw [List.length_append, le_length]
  omega
 obtain ⟨m, hm⟩ : ∃ m, m = Gs.length := ⟨_, rfl⟩
 have HMG := Lib.hid hm
 rw [← hm] at HGR hg6
 clear hm hgz
 go_enter Tryz.func34, Tryz.ntmps34
 go_wp2_with fail
 with_reducible refine HAL.out.mono ?_
 rintro e w1 ⟨Aa, c, l, rfl, hu, hok, hse, hb⟩
 obtain ⟨hfew, hck, hfo⟩ := HCH.out l hse
 obtain ⟨n, hn⟩ : ∃ n, n = l.length := ⟨_, rfl⟩
 have HLN : Hid (n = l.length) := hn
 have HU := Lib.hid hu
 have HOK := Lib.hid hok
 have HCK := Lib.hid hck
 have HB1 := Lib.hid hb
 have HSH : Hid (out = le 2 1 ++ rowB Gs ++ le l.length 2 ++ l.flatMap (userB 2)) := by show out = _; rw [hfo]; unfold folB; simp only [List.append_assoc]
 have hbl : ∀ k, ((l.take k).flatMap (userB 2)).length ≤ 137 * 12 := fun k => by
  have := usersB_length12 (l := l.take k) (fun q hq => hck q (List.mem_of_mem_take hq))
  have h2 : (l.take k).length ≤ l.length := by rw [List.length_take]; omega
  omega
 have HBL := Lib.hid hbl
 rw [← hn] at hfew HSH ⊢
 have HM1 := Lib.hid (H5.out.later hb)
 clear hu hok hck hse hfo hb HAL HCH hn hbl H5
 have HZ := Lib.hid (NW6.zero w1)
 go_wp2_with fail
 with_reducible refine (NW6.byte12 _ 2 HZ.out (by simp) (by omega) (by simp)).mono ?_
 rintro e w2 ⟨rfl, h1⟩
 rw [List.nil_append] at h1
 have H1 := Lib.hid h1
 have HG2 := Lib.hid (HGR.out w2 (below_next HB1.out h1.2.2))
 clear h1 HZ HGR
 go_wp2_with fail
 with_reducible refine HG2.out.mono ?_
 rintro e w3 ⟨Ag, cg, rfl, hog, hb⟩
 have H2 := Lib.hid (H1.out.below hb)
 have HOG := Lib.hid hog
 clear hb hog HG2 H1
 have HRC : Hid (Calls Tryz.prog 96 #[.pointer (some ⟨w1.heap.size, 0, none⟩), .slice Ag m cg] w3 (Grows12 w1 w1.heap.size (le 2 1 ++ rowB Gs))) := by
  have ho := HOG.out
  rw [HMG.out] at ho ⊢
  exact NW6.row12 Gs H2.out ho (by rw [← HMG.out]; omega) HGZ.out (by rw [le_length]; omega)
 go_wp2_with fail
 with_reducible refine HRC.out.mono ?_
 rintro e w4 ⟨rfl, h1⟩
 have H3 := Lib.hid h1
 clear h1 HRC H2 HOG
 go_wp2_with fail
 with_reducible refine (NW6.two12 _ n H3.out (by go_num) (by omega) (by have := HRL.out; rw [List.length_append, le_length]; omega)).mono ?_
 rintro e w5 ⟨rfl, h1⟩
 have H4 := Lib.hid h1
 have hpre : (le 2 1 ++ rowB Gs ++ le n 2).length ≤ 2000 := by have := HRL.out; rw [List.length_append, List.length_append, le_length, le_length]; omega
 clear h1 H3
 generalize le 2 1 ++ rowB Gs ++ le n 2 = pre at *
 generalize hB : w1.heap.size = BW at *
 have HBW := Lib.hid hB
 clear hB
 go_wp2
 go_loopg [6, 21] n (fun gg _ s21 wr => ∃ k : Nat, k ≤ n ∧ n - k ≤ gg ∧ s21 = .int .i64 k ∧ Hid (NW6 w1 BW (pre ++ (l.take k).flatMap (userB 2)) wr))
 case atStart => exact ⟨0, Nat.zero_le _, by omega, rfl, by show NW6 w1 BW (pre ++ []) w5; rw [List.append_nil]; exact H4.out⟩
 case round =>
  clear H4
  obtain ⟨k, hk, hg, rfl, HW⟩ := hrel
  have hbw := HW.out.2.2
  by_cases hlt : k < n
  ·
   have hltz : (k : Int) < (n : Int) := by omega
   have hkl : k < l.length := HLN.out ▸ hlt
   obtain ⟨b, off, rfl, hb, hc⟩ := (HU.out.later hbw) (by intro e; rw [e] at hkl; exact absurd hkl (Nat.not_lt_zero _))
   have c0 : wr.cell? ⟨b, off + k * 5, none⟩ = some (.string l[k].nm) := hc k hkl 0 _ rfl
   have c1 : wr.cell? ⟨b, off + k * 5 + 1, none⟩ = some (.string l[k].hs) := hc k hkl 1 _ rfl
   have c2 : wr.cell? ⟨b, off + k * 5 + 2, none⟩ = some (.string l[k].ml) := hc k hkl 2 _ rfl
   have c3 : wr.cell? ⟨b, off + k * 5 + 3, none⟩ = some (.bool l[k].dis) := hc k hkl 3 _ rfl
   have c4 : wr.cell? ⟨b, off + k * 5 + 4, none⟩ = some (.slice l[k].ga l[k].gs.length l[k].gc) := hc k hkl 4 _ rfl
   have hb1 := below_alloc (Below.refl wr.heap.size wr) (.cells #[.string l[k].nm, .string l[k].hs, .string l[k].ml, .bool l[k].dis, .slice l[k].ga l[k].gs.length l[k].gc] 37)
   have hch := HCK.out l[k] (List.getElem_mem hkl)
   have hlen : (pre ++ (l.take k).flatMap (userB 2)).length ≤ 100000 := by have := HBL.out k; rw [List.length_append]; omega
   have HP : Hid (Calls Tryz.prog 98 #[.pointer (some ⟨BW, 0, none⟩), .int .i64 2, .agg #[.string l[k].nm, .string l[k].hs, .string l[k].ml, .bool l[k].dis, .slice l[k].ga l[k].gs.length l[k].gc]] (wr.alloc (.cells #[.string l[k].nm, .string l[k].hs, .string l[k].ml, .bool l[k].dis, .slice l[k].ga l[k].gs.length l[k].gc] 37)) fun e w' => e = .returned (.bool true) ∧ NW6 w1 BW (pre ++ (l.take (k + 1)).flatMap (userB 2)) w') := by
    refine (put6_wide w1 BW _ 2 l[k] _ (HW.out.below hb1) (HOK.out _ (List.getElem_mem hkl)) HM1.out hlen).mono fun e w' h => ?_
    rcases h with ⟨_, he, hn⟩ | ⟨h0, _⟩
    ·
     refine ⟨he, ?_⟩
     rw [List.take_succ_eq_append_getElem hkl, List.flatMap_append, List.flatMap_singleton, ← List.append_assoc]
     exact hn
    ·
     exact absurd hch h0
   clear hc hb hb1 hch hlen hbw HW
   generalize l[k].nm = nm at *
   generalize l[k].hs = hs at *
   generalize l[k].ml = ml at *
   generalize l[k].dis = dis at *
   generalize l[k].ga = ga at *
   generalize l[k].gs.length = gl at *
   generalize l[k].gc = gc at *
   go_wp2_with (go_at_call 98; (with_reducible refine HP.out.mono ?_); rintro e w6 ⟨rfl, h4⟩; have H5 := Lib.hid h4; clear h4)
   go_roundg (n - (k + 1))
   case measure => omega
   case rel => exact ⟨k + 1, by omega, by omega, by go_num, H5⟩
  ·
   have hltz : ¬ (k : Int) < (n : Int) := by omega
   obtain rfl : k = n := by omega
   have hw := HW.out
   rw [List.take_of_length_le (by have := HLN.out; omega), ← HSH.out] at hw
   have hol : out.length ≤ 1000000 := by
    have := HBL.out k
    rw [List.take_of_length_le (by have := HLN.out; omega)] at this
    rw [HSH.out, List.length_append]
    omega
   have HBY := Lib.hid (hw.bytes hol)
   have HBB := Lib.hid (below_next HB1.out hw.2.2)
   have hszb := HBB.out.size
   clear hw hol hbw HW
   go_wp2_with fail
   with_reducible refine HBY.out.mono ?_
   rintro e w7 ⟨v7, rfl, ho, hn, hb⟩
   have HF : Hid (Told6 w out (.returned v7) w7) := ⟨v7, rfl, ho, fun j hj => Nat.le_trans hszb (hn j hj), below_next HBB.out hb⟩
   clear ho hn hb HBY
   go_wp2
   go_ret
   exact HF.out
end

set_option maxRecDepth 100000 in
set_option maxHeartbeats 1000000 in
theorem lives12_calls (w : World) (h5 : Len5 w) : Calls Tryz.prog 32 #[] w (Tells5 true w) := by
 have HN := Lib.hid (nnew11_calls w)
 have HBY : Hid (∀ W D P M G, Own11 w W D P M G [] [] [] → Calls Tryz.prog 34 #[.pointer (some ⟨D, 0, none⟩)] W (Told6 W [2, 0, 0, 0, 0])) := fun W D P M G h => fbytes12_calls h Good11.nil (h5.later h.below)
 clear h5
 go_enter Tryz.func32, Tryz.ntmps32
 go_wp2_with fail
 with_reducible refine HN.out.mono ?_
 rintro e w1 ⟨D, P, M, G, rfl, ho⟩
 have HB1 := Lib.hid ho.below
 have HB := Lib.hid (HBY.out w1 D P M G ho)
 clear ho HN HBY
 go_wp2_with fail
 with_reducible refine HB.out.mono ?_
 rintro e w2 ⟨v2, rfl, ho, _, hb⟩
 have hrd := (Rd.of_own ho).string (P := Tryz.prog) (src := 66) (dst := 9) Tryz.underlying66 Tryz.underlying5 Tryz.underlying9
 obtain ⟨A2, c2, rfl⟩ := owns_shape ho
 have HB2 := Lib.hid (below_next HB1.out hb)
 clear ho hb HB
 have hrd6 : (convert 66 9 (.slice A2 5 c2)).run Tryz.prog w2 = .ok (.string ⟨#[2, 0, 0, 0, 0]⟩) w2 := hrd
 clear hrd
 go_wp2
 go_ret
 exact ⟨rfl, HB2.out⟩

end Go.Proofs.YtmcomnocpibiiaaGreatDoor


namespace Go.Proofs.YtmcomnocpibiiaaGreatDoor
open Go.RowKit Go.Maps Go.Sort Go.Shelf

theorem size12D : (Tryz.prog.info? TD11).map (·.size) = some 2 := by kernel_rfl
def RRead12 (w : World) (r : Int × List Us × List ByteArray) (e : Ending) (w' : World) : Prop :=
  (∃ A A2 n m c c2, e = .returned (.tuple #[.agg #[.slice A n c, .slice A2 m c2], .int .i64 r.1]) ∧ (r.1 = 0 → ∃ l2 : List Us, l2.map nrm11 = r.2.1 ∧ n = l2.length ∧ RdU7 w' A l2 ∧ (∀ u ∈ l2, u.Ok w') ∧ m = r.2.2.length ∧ RdS w' A2 r.2.2)) ∧ Below w.heap.size w w'
theorem rget12_calls (st : St) (w : World) (hok : Ok st) (hl : st.bs.length ≤ 1000) :
    Calls Tryz.prog 111 #[.agg #[.string ⟨st.bs.toArray⟩, .int .i64 st.e], .int .i64 2] w fun e w' => ∃ u : Us, e = .returned (.tuple #[.agg #[.string ⟨(getS 2 st).1.bs.toArray⟩, .int .i64 (getS 2 st).1.e], .agg #[.string u.nm, .string u.hs, .string u.ml, .bool u.dis, .slice u.ga u.gs.length u.gc]]) ∧ nrm11 u = tell12 st ∧ u.Short ∧ w'.ownsRow w.heap.size 9 1 (.slice u.ga u.gs.length u.gc) u.gs.length (textCells u.gs) ∧ Turns (fun _ => False) w w' := by
  have h6 := rget6_all 2 st w hok hl
  have hw := getS_short 2 st hl
  have hb := getS2_bare12 st
  have ht : tell12 st = if (getS 2 st).1.e = 0 then (getS 2 st).2 else zeroU := rfl
  rw [ht]
  clear ht
  generalize getS 2 st = q at *
  obtain ⟨s1, u⟩ := q
  dsimp only at *
  refine Calls.mono h6 fun e w' ⟨A, c, he, ho, hn, hd⟩ => ?_
  by_cases h0 : s1.e = 0
  · rw [if_pos h0] at he ⊢
    exact ⟨{ u with ga := A, gc := c }, he, hb, ⟨hw.nm, hw.hs, hw.ml, hw.all⟩, ownsRow_up12 ho hn, hd⟩
  · rw [if_neg h0] at he ⊢
    exact ⟨zeroU, he, rfl, ⟨Nat.zero_le _, Nat.zero_le _, Nat.zero_le _, fun s hs => by cases hs⟩, World.ownsRow_nil _ _ _ _, hd⟩
theorem okGet12 {st : St} (h : Ok st) : Ok (getS 2 st).1 := by
  have o1 := h.text 65535
  rcases h1 : textS st 65535 with ⟨s1, nm⟩
  rw [h1] at o1
  have o2 := o1.text 65535
  rcases h2 : textS s1 65535 with ⟨s2, hs⟩
  rw [h2] at o2
  have o3 := o2.text 65535
  rcases h3 : textS s2 65535 with ⟨s3, ml⟩
  rw [h3] at o3
  have o4 := o3.truth
  rcases h4 : truthS s3 with ⟨s4, dis⟩
  rw [h4] at o4
  have o5 := o4.row 65535 65535
  rcases h5 : rowS s4 65535 65535 with ⟨s5, gs⟩
  rw [h5] at o5
  rw [getS_two h1 h2 h3 h4 h5]
  exact o5.fail _
theorem owns_room12 {w : World} {b0 n c : Nat} {A : Option Addr} {xs : List Value} (ho : w.ownsRow b0 37 5 (.slice A n c) n xs) : n ≤ c ∧ c ≤ 9223372036854775807 := by
  rcases ho.2 with ⟨h0, h1⟩ | ⟨g, cap, cur, hv, hb, hg, h1, h2, h3, h4⟩
  · injection h0 with ha hn hc
    subst hn hc
    exact ⟨Nat.le_refl _, Nat.zero_le _⟩
  · injection hv with ha _ hc
    subst ha hc
    exact ⟨h1, by have : c ≤ maxLen := by first | exact h2 | omega
                  simpa [maxLen] using this⟩

structure Rr12 (w w2 : World) (rs zs : Array Value) (W : World) : Prop where
  z : W.heap[w.heap.size]? = some (.cells zs TD11 (0, 0))
  n : W.heap[w.heap.size + 1]? = some (.cells #[.slice none 0 0, .slice none 0 0] TD11 (0, 0))
  r : W.heap[w2.heap.size]? = some (.cells rs 129 (0, 0))
  lo : w.heap.size + 2 ≤ w2.heap.size
  t : Turns (fun _ => False) w W
  t2 : Turns (fun i => i = w.heap.size) w2 W
section
variable {w w2 W W' : World} {rs zs : Array Value} {a b a' b' : Value}
theorem Rr12.apart {S : Nat → Prop} (h : Rr12 w w2 rs zs W) (ht : Turns S W W') (hS : ∀ i, S i → w2.heap.size + 1 ≤ i) : Rr12 w w2 rs zs W' :=
  have hlo := h.lo
  have k : ∀ {B : Nat} {o : Obj}, W.heap[B]? = some o → B ≤ w2.heap.size → W'.heap[B]? = some o := fun hb hB => (ht.block _ (Array.getElem?_eq_some_iff.1 hb).1 (fun f => by have := hS _ f; omega)).trans hb
  ⟨k h.z (by omega), k h.n (by omega), k h.r (by omega), h.lo, h.t.next ht (fun i hi f => by have := hS _ f; omega), h.t2.next ht (fun i hi f => by have := hS _ f; omega)⟩
theorem Rr12.still (h : Rr12 w w2 rs zs W) (ht : Turns (fun _ => False) W W') : Rr12 w w2 rs zs W' := h.apart ht (fun _ f => f.elim)
theorem Rr12.setR (h : Rr12 w w2 #[a, b] zs W) (a' b' : Value) : Rr12 w w2 #[a', b'] zs ((W.setCell ⟨w2.heap.size, 0, none⟩ a').setCell ⟨w2.heap.size, 1, none⟩ b') := by
  have hr := h.r
  have hlo := h.lo
  refine ⟨?_, ?_, by simp [World.setCell, Array.getElem?_modify, hr], h.lo, (h.t.setCell (p := ⟨w2.heap.size, 0, none⟩) (fun hl => absurd (show w2.heap.size < w.heap.size from hl) (by omega)) _).setCell (p := ⟨w2.heap.size, 1, none⟩) (fun hl => absurd (show w2.heap.size < w.heap.size from hl) (by omega)) _, (h.t2.setCell (p := ⟨w2.heap.size, 0, none⟩) (fun hl => absurd hl (by simp)) _).setCell (p := ⟨w2.heap.size, 1, none⟩) (fun hl => absurd hl (by simp)) _⟩
  · rw [Below.heap_setCell _ _ _ _ (show w.heap.size ≠ w2.heap.size by omega), Below.heap_setCell _ _ _ _ (show w.heap.size ≠ w2.heap.size by omega)]
    exact h.z
  · rw [Below.heap_setCell _ _ _ _ (show w.heap.size + 1 ≠ w2.heap.size by omega), Below.heap_setCell _ _ _ _ (show w.heap.size + 1 ≠ w2.heap.size by omega)]
    exact h.n
theorem Rr12.setE (h : Rr12 w w2 #[a, b] zs W) (b' : Value) : Rr12 w w2 #[a, b'] zs (W.setCell ⟨w2.heap.size, 1, none⟩ b') := by
  have hr := h.r
  have hlo := h.lo
  refine ⟨?_, ?_, by simp [World.setCell, Array.getElem?_modify, hr], h.lo, h.t.setCell (p := ⟨w2.heap.size, 1, none⟩) (fun hl => absurd (show w2.heap.size < w.heap.size from hl) (by omega)) _, h.t2.setCell (p := ⟨w2.heap.size, 1, none⟩) (fun hl => absurd hl (by simp)) _⟩
  · rw [Below.heap_setCell _ _ _ _ (show w.heap.size ≠ w2.heap.size by omega)]
    exact h.z
  · rw [Below.heap_setCell _ _ _ _ (show w.heap.size + 1 ≠ w2.heap.size by omega)]
    exact h.n
theorem Rr12.setZ (h : Rr12 w w2 rs #[a, b] W) (a' b' : Value) : Rr12 w w2 rs #[a', b'] ((W.setCell ⟨w.heap.size, 0, none⟩ a').setCell ⟨w.heap.size, 1, none⟩ b') := by
  have hz := h.z
  have hlo := h.lo
  refine ⟨by simp [World.setCell, Array.getElem?_modify, hz], ?_, ?_, h.lo, (h.t.setCell (p := ⟨w.heap.size, 0, none⟩) (fun hl => absurd hl (by simp)) _).setCell (p := ⟨w.heap.size, 1, none⟩) (fun hl => absurd hl (by simp)) _, (h.t2.setCell (p := ⟨w.heap.size, 0, none⟩) (fun _ => rfl) _).setCell (p := ⟨w.heap.size, 1, none⟩) (fun _ => rfl) _⟩
  · rw [Below.heap_setCell _ _ _ _ (show w.heap.size + 1 ≠ w.heap.size by omega), Below.heap_setCell _ _ _ _ (show w.heap.size + 1 ≠ w.heap.size by omega)]
    exact h.n
  · rw [Below.heap_setCell _ _ _ _ (show w2.heap.size ≠ w.heap.size by omega), Below.heap_setCell _ _ _ _ (show w2.heap.size ≠ w.heap.size by omega)]
    exact h.r
theorem Rr12.zrow {cs : Array Value} (h : Rr12 w w2 rs zs W) : Rr12 w w2 rs cs (W.setRow w.heap.size cs) := by
  have hlo := h.lo
  exact ⟨setRow_heap W _ _ cs _ _ h.z, (setRow_other W _ _ cs (by omega)).trans h.n, (setRow_other W _ _ cs (by omega)).trans h.r, h.lo, h.t.next (S' := fun i => i = w.heap.size) ⟨rfl, rfl, rfl, by simp, fun k _ hk => setRow_other W _ k cs hk⟩ (fun i hi he => by omega), h.t2.next (S' := fun i => i = w.heap.size) ⟨rfl, rfl, rfl, by simp, fun k _ hk => setRow_other W _ k cs hk⟩ (fun i hi he => he)⟩
theorem rr12_start {W0 : World} (hz : W0.heap[w.heap.size]? = some (.cells #[.slice none 0 0, .slice none 0 0] TD11 (0, 0))) (hn : W0.heap[w.heap.size + 1]? = some (.cells #[.slice none 0 0, .slice none 0 0] TD11 (0, 0))) (ht0 : Turns (fun _ => False) w W0) (ht : Turns (fun _ => False) W0 w2) (a b : Value) : Rr12 w w2 #[a, b] #[.slice none 0 0, .slice none 0 0] (w2.alloc (.cells #[a, b] 129)) := by
  have k : ∀ {B : Nat} {o : Obj}, W0.heap[B]? = some o → w2.heap[B]? = some o := fun hb => (ht.block _ (Array.getElem?_eq_some_iff.1 hb).1 (fun f => f)).trans hb
  have h1 := k hz
  have h2 := k hn
  have hl := (Array.getElem?_eq_some_iff.1 h2).1
  exact ⟨alloc_old6 h1, alloc_old6 h2, alloc_at6 rfl, by omega, (ht0.next ht (fun _ _ f => f)).alloc _, (Turns.refl _ _).alloc _⟩
end
def YEr12 (R : Nat) (E : Int) : Nat → Value → World → Prop
  | 0, v, _ => v = .agg #[.slice none 0 0, .slice none 0 0]
  | 1, v, _ => v = .pointer (some ⟨R, 1, none⟩)
  | 2, v, _ => v = .int .i64 E
  | 4, v, _ => v = .int .i64 E
  | _, _, _ => True
theorem YEr12_keep {R : Nat} {E : Int} {W W' : World} (j : Nat) (z : Value) (h : YEr12 R E j z W) : YEr12 R E j z W' := by
  match j, h with
  | 0, h => exact h
  | 1, h => exact h
  | 2, h => exact h
  | 3, _ => trivial
  | 4, h => exact h
  | _ + 5, _ => trivial

set_option maxRecDepth 100000 in
set_option maxHeartbeats 16000000 in
theorem rread12_calls (bs : List UInt8) (w : World) (hl : bs.length ≤ 1000) :
    Calls Tryz.prog 39 #[.string ⟨bs.toArray⟩] w (RRead12 w (doc12 bs)) := by
  have hzd : ∀ w : World, (zeroValue TD11).run Tryz.prog w = .ok (.agg #[.slice none 0 0, .slice none 0 0]) w := fun w => by kernel_rfl
  have HB0 : Hid (Below w.heap.size w ((w.alloc (.cells #[.slice none 0 0, .slice none 0 0] TD11)).alloc (.cells #[.slice none 0 0, .slice none 0 0] TD11))) := below_alloc (below_alloc (Below.refl _ _) _) _
  have z0 : ((w.alloc (.cells #[.slice none 0 0, .slice none 0 0] TD11)).alloc (.cells #[.slice none 0 0, .slice none 0 0] TD11)).heap[w.heap.size]? = some (.cells #[.slice none 0 0, .slice none 0 0] TD11 (0, 0)) := alloc_old6 (alloc_at6 rfl)
  have n0 : ((w.alloc (.cells #[.slice none 0 0, .slice none 0 0] TD11)).alloc (.cells #[.slice none 0 0, .slice none 0 0] TD11)).heap[w.heap.size + 1]? = some (.cells #[.slice none 0 0, .slice none 0 0] TD11 (0, 0)) := alloc_at6 (by simp)
  cases bs with
  | nil =>
    have y0 : _ = some (.slice none 0 0 : Value) := cell6 z0 0
    have y1 : _ = some (.slice none 0 0 : Value) := cell6 z0 1
    have HF : Hid (RRead12 w (doc12 []) (.returned (.tuple #[.agg #[.slice none 0 0, .slice none 0 0], .int .i64 2])) ((w.alloc (.cells #[.slice none 0 0, .slice none 0 0] TD11)).alloc (.cells #[.slice none 0 0, .slice none 0 0] TD11))) := ⟨⟨none, none, 0, 0, 0, 0, rfl, fun h => by cases h⟩, HB0.out⟩
    clear z0 n0 HB0
    generalize doc12 [] = out at *
    show Calls Tryz.prog 39 #[.string ⟨#[]⟩] w (RRead12 w out)
    go_enter Tryz.func39, Tryz.ntmps39
    go_wp2
    refine bodyPost_ret (v := .tuple #[.agg #[.slice none 0 0, .slice none 0 0], .int .i64 2]) ?_ rfl HF.out
    simp [results, Tryz.results39, go_sem, y0, y1]
  | cons b t =>
    obtain ⟨out, hout⟩ : ∃ out, out = doc12 (b :: t) := ⟨_, rfl⟩
    have HD : Hid (out = if b = 2 then body12 ⟨t, 0⟩ else (6, [], [])) := hout
    rw [← hout]
    clear hout
    have hx : (⟨(b :: t).toArray⟩ : ByteArray).extract 1 (t.length + 1) = ⟨t.toArray⟩ := by
      apply ByteArray.ext
      simp
    have hidx : ((⟨(b :: t).toArray⟩ : ByteArray)[0]'(by show 0 < (b :: t).toArray.size; simp)).toNat = b.toNat := rfl
    have lt1 : t.length ≤ 999 := by simp at hl; omega
    clear hl
    by_cases hb : b = 2
    case neg =>
      have hd := HD.out
      rw [if_neg hb] at hd
      have hb2 : ((b.toNat : Int) != 2) = true := by
        have : b.toNat ≠ 2 := fun h => hb (UInt8.toNat_inj.1 h)
        simp; omega
      have y0 : _ = some (.slice none 0 0 : Value) := cell6 z0 0
      have y1 : _ = some (.slice none 0 0 : Value) := cell6 z0 1
      have HF : Hid (RRead12 w out (.returned (.tuple #[.agg #[.slice none 0 0, .slice none 0 0], .int .i64 6])) ((w.alloc (.cells #[.slice none 0 0, .slice none 0 0] TD11)).alloc (.cells #[.slice none 0 0, .slice none 0 0] TD11))) := by
        rw [hd]
        exact ⟨⟨none, none, 0, 0, 0, 0, rfl, fun h => by cases h⟩, HB0.out⟩
      clear z0 n0 HB0 hd HD lt1
      go_enter Tryz.func39, Tryz.ntmps39
      go_wp2
      refine bodyPost_ret (v := .tuple #[.agg #[.slice none 0 0, .slice none 0 0], .int .i64 6]) ?_ rfl HF.out
      simp [results, Tryz.results39, go_sem, y0, y1]
    have hd := HD.out
    rw [if_pos hb] at hd
    have HD2 := Lib.hid hd
    subst hb
    have hb1 : UInt8.toNat 2 = 2 := rfl
    clear hd HD
    have o0 : Ok ⟨t, 0⟩ := fun h => absurd rfl h
    obtain ⟨i0, hi, hz0, hz1, hz2⟩ := info_parts infoUser11
    have okg : Ok (rowS ⟨t, 0⟩ 6 12).1 := o0.row 6 12
    have lg := rowS_left12 ⟨t, 0⟩ 6 12
    have zg := rowS_sizes6 ⟨t, 0⟩ 6 12
    have fg := row_few12 ⟨t, 0⟩ 6 12 (by omega)
    have HRW : Hid (∀ W, Calls Tryz.prog 109 #[.agg #[.string ⟨t.toArray⟩, .int .i64 0], .int .i64 6, .int .i64 12] W fun e w' => ∃ A c, e = .returned (.tuple #[.agg #[.string ⟨(rowS ⟨t, 0⟩ 6 12).1.bs.toArray⟩, .int .i64 (rowS ⟨t, 0⟩ 6 12).1.e], .slice A (rowS ⟨t, 0⟩ 6 12).2.length c]) ∧ w'.ownsRow 0 9 1 (.slice A (rowS ⟨t, 0⟩ 6 12).2.length c) (rowS ⟨t, 0⟩ 6 12).2.length (textCells (rowS ⟨t, 0⟩ 6 12).2) ∧ (∀ j, Value.ownBlock (.slice A (rowS ⟨t, 0⟩ 6 12).2.length c) = some j → W.heap.size ≤ j) ∧ Turns (fun _ => False) W w') := fun W => getrow6_calls ⟨t, 0⟩ 6 12 W o0 (by show t.length ≤ _; omega)
    have hd2 := HD2.out
    unfold body12 at hd2
    have HD3 := Lib.hid hd2
    clear hd2 HD2
    generalize rowS ⟨t, 0⟩ 6 12 = g at *
    obtain ⟨s1, G⟩ := g
    dsimp only at *
    have HGT : Hid (∀ W, Calls Tryz.prog 110 #[.agg #[.string ⟨s1.bs.toArray⟩, .int .i64 s1.e], .int .i64 2] W fun e w' => e = .returned (.tuple #[.agg #[.string ⟨(numS s1 2).1.bs.toArray⟩, .int .i64 (numS s1 2).1.e], .int .u64 (numS s1 2).2]) ∧ Turns (fun _ => False) W w') := fun W => get_calls s1 2 2 W okg (by omega) rfl (by omega)
    have hlt : (numS s1 2).2 < 65536 := numS_lt s1 2
    have hl2 := numS_left s1 2
    have o2 := okg.num 2
    generalize (numS s1 2).1 = s2 at *
    generalize (numS s1 2).2 = n at *
    have hls2 : s2.bs.length ≤ 1000 := by omega
    have HZG : Hid (∀ x ∈ G, x.size ≤ 1000) := fun x hx => by have := zg x hx; omega
    obtain ⟨m, hmg⟩ : ∃ m, m = G.length := ⟨_, rfl⟩
    rw [← hmg] at HRW fg
    have HMG := Lib.hid hmg
    clear okg lg zg hl2 lt1 hmg o0
    go_enter Tryz.func39, Tryz.ntmps39
    go_wp2_with fail
    with_reducible refine (HRW.out _).mono ?_
    rintro e w2 ⟨A2, c2, rfl, hog, hng, ht⟩
    have HG1 : Hid (Rr12 w w2 #[.string ⟨s1.bs.toArray⟩, .int .i64 s1.e] #[.slice none 0 0, .slice none 0 0] (w2.alloc (.cells #[.string ⟨s1.bs.toArray⟩, .int .i64 s1.e] 129))) := rr12_start z0 n0 (((Turns.refl _ _).alloc _).alloc _) ht _ _
    have HOG : Hid (∀ W, Turns (fun i => i = w.heap.size) w2 W → RdS W A2 G) := fun W ht2 => by
      have h1 := owns_turns (b1 := 0) (ownsRow_up12 hog hng) (Nat.zero_le _) ht2 (fun j hj he => by have he' : j = w.heap.size := he; simp at hj; omega)
      exact (owns_facts6 h1 HMG.out).1
    clear hog hng ht HRW z0 n0 HB0
    go_wp2_with fail
    generalize w2.alloc (.cells #[.string ⟨s1.bs.toArray⟩, .int .i64 s1.e] 129) = W1 at *
    with_reducible refine (HGT.out W1).mono ?_
    rintro e w3 ⟨rfl, ht⟩
    have hg := HG1.out.still ht
    have p0 : _ = some (.string ⟨s1.bs.toArray⟩ : Value) := cell6 hg.r 0
    have p1 : _ = some (.int .i64 s1.e : Value) := cell6 hg.r 1
    have pf := free6 hg.r
    have hg2 := hg.setR (.string ⟨s2.bs.toArray⟩) (.int .i64 s2.e)
    have HG2 := Lib.hid hg2
    have r0 : _ = some (.string ⟨s2.bs.toArray⟩ : Value) := cell6 hg2.r 0
    have r1 : _ = some (.int .i64 s2.e : Value) := cell6 hg2.r 1
    have rf := free6 hg2.r
    clear hg hg2 ht HG1 HGT
    generalize hW2 : (w3.setCell ⟨w2.heap.size, 0, none⟩ (.string ⟨s2.bs.toArray⟩)).setCell ⟨w2.heap.size, 1, none⟩ (.int .i64 s2.e) = W2 at *
    by_cases hz : s2.e = 0
    case neg =>
      have hd := HD3.out
      rw [if_pos hz] at hd
      have hb1 : (s2.e == 0) = false := by simpa using hz
      have hb2 : (s2.e != 0) = true := by simpa using hz
      have HERR : Hid (∀ W, Rr12 w w2 #[.string ⟨s2.bs.toArray⟩, .int .i64 s2.e] #[.slice none 0 0, .slice none 0 0] W → RRead12 w out (.returned (.tuple #[.agg #[.slice none 0 0, .slice none 0 0], .int .i64 s2.e])) W) := fun W h => by
        rw [hd]
        exact ⟨⟨none, none, 0, 0, 0, 0, rfl, fun h => absurd h hz⟩, h.t.below (fun _ f => f.elim)⟩
      obtain ⟨t2, e2⟩ := s2
      dsimp only at *
      clear hd HD3 hz o2 hls2 hlt hi hz0 hz1 hz2 HOG HMG HZG fg
      go_wp2_with fail
      clear p0 p1 pf r0 r1 rf hW2
      refine wp_region_st2 (by kernel_rfl) (YEr12 w2.heap.size e2) (fun _ W => Rr12 w w2 #[.string ⟨t2.toArray⟩, .int .i64 e2] #[.slice none 0 0, .slice none 0 0] W) ?F1 ?hF1 (by kernel_rfl) (by kernel_rfl) (HG2.out.still ((Turns.refl _ _).drew)) ?step1 ?fin1
      case hF1 =>
        intro x
        simp only [List.map_cons, List.map_nil, putL, Act.put, List.setIfInBounds_toArray, List.set_cons_zero, List.set_cons_succ, Nat.zero_add, Nat.reduceAdd]
        exact rfl
      case step1 =>
        refine ⟨?_, ?_, ?_, ?_, ?_, trivial⟩
        all_goals intro L x W hL hd hG hdep K hK
        · have n0 : W.cell? ⟨w.heap.size + 1, 0, none⟩ = some (.slice none 0 0) := cell6 hG.n 0
          have n1 : W.cell? ⟨w.heap.size + 1, 1, none⟩ = some (.slice none 0 0) := cell6 hG.n 1
          clear hdep
          go_simp
          exact hK _ _ rfl hG (fun _ _ h => h)
        · clear hdep
          go_simp
          exact hK _ _ rfl hG (fun _ _ h => h)
        · have h1 : x 1 = _ := hdep 1 rfl
          have r1 : W.cell? ⟨w2.heap.size, 1, none⟩ = some (.int .i64 e2) := cell6 hG.r 1
          clear hdep
          simp only [h1] at hK
          go_simp
          exact hK _ _ rfl hG (fun _ _ h => h)
        · have h0 : x 0 = .agg #[.slice none 0 0, .slice none 0 0] := hdep 0 rfl
          refine step_store6 (by rfl) TD11 (.tmp 2) (.tmp 42) rfl w.heap.size rfl _ h0 _ _ hG.z size12D rfl (by simp [Value.oneCell']) ?_
          exact hK _ _ trivial hG.zrow (fun j _ h => YEr12_keep j _ h)
        · have h2 : x 2 = _ := hdep 2 rfl
          clear hdep
          simp only [h2] at hK
          go_simp
          exact hK _ _ rfl hG (fun _ _ h => h)
      case fin1 =>
        intro L x W8 hall hG hY
        have h4 : x 4 = .int .i64 e2 := hY 4 (by decide)
        have y0 : W8.cell? ⟨w.heap.size, 0, none⟩ = some (.slice none 0 0) := cell6 hG.z 0
        have y1 : W8.cell? ⟨w.heap.size, 1, none⟩ = some (.slice none 0 0) := cell6 hG.z 1
        have HFIN := Lib.hid (HERR.out W8 hG)
        clear hY hG hall
        rw [h4]
        go_wp2
        refine bodyPost_ret (v := .tuple #[.agg #[.slice none 0 0, .slice none 0 0], .int .i64 e2]) ?_ rfl HFIN.out
        simp [results, Tryz.results39, go_sem, y0, y1]
    by_cases h12 : 12 < n
    · have hd := HD3.out
      rw [if_neg (by simpa using hz), if_pos h12] at hd
      have hz12 : (n : Int) > 12 := by omega
      obtain ⟨t2, e2⟩ := s2
      dsimp only at *
      subst hz
      have hg3 := HG2.out.setE (.int .i64 7)
      have HG3 := Lib.hid hg3
      have q1 : _ = some (.int .i64 7 : Value) := cell6 hg3.r 1
      have HERR : Hid (∀ W, Rr12 w w2 #[.string ⟨t2.toArray⟩, .int .i64 7] #[.slice none 0 0, .slice none 0 0] W → RRead12 w out (.returned (.tuple #[.agg #[.slice none 0 0, .slice none 0 0], .int .i64 7])) W) := fun W h => by
        rw [hd]
        exact ⟨⟨none, none, 0, 0, 0, 0, rfl, fun h => by cases h⟩, h.t.below (fun _ f => f.elim)⟩
      clear hd HD3 o2 hls2 hlt hi hz0 hz1 hz2 HOG HMG HZG fg hg3
      go_wp2_with fail
      clear p0 p1 pf r0 r1 rf hW2 q1
      refine wp_region_st2 (by kernel_rfl) (YEr12 w2.heap.size 7) (fun _ W => Rr12 w w2 #[.string ⟨t2.toArray⟩, .int .i64 7] #[.slice none 0 0, .slice none 0 0] W) ?F2 ?hF2 (by kernel_rfl) (by kernel_rfl) (HG3.out.still ((Turns.refl _ _).drew)) ?step2 ?fin2
      case hF2 =>
        intro x
        simp only [List.map_cons, List.map_nil, putL, Act.put, List.setIfInBounds_toArray, List.set_cons_zero, List.set_cons_succ, Nat.zero_add, Nat.reduceAdd]
        exact rfl
      case step2 =>
        refine ⟨?_, ?_, ?_, ?_, ?_, trivial⟩
        all_goals intro L x W hL hd hG hdep K hK
        · have n0 : W.cell? ⟨w.heap.size + 1, 0, none⟩ = some (.slice none 0 0) := cell6 hG.n 0
          have n1 : W.cell? ⟨w.heap.size + 1, 1, none⟩ = some (.slice none 0 0) := cell6 hG.n 1
          clear hdep
          go_simp
          exact hK _ _ rfl hG (fun _ _ h => h)
        · clear hdep
          go_simp
          exact hK _ _ rfl hG (fun _ _ h => h)
        · have h1 : x 1 = _ := hdep 1 rfl
          have r1 : W.cell? ⟨w2.heap.size, 1, none⟩ = some (.int .i64 7) := cell6 hG.r 1
          clear hdep
          simp only [h1] at hK
          go_simp
          exact hK _ _ rfl hG (fun _ _ h => h)
        · have h0 : x 0 = .agg #[.slice none 0 0, .slice none 0 0] := hdep 0 rfl
          refine step_store6 (by rfl) TD11 (.tmp 2) (.tmp 42) rfl w.heap.size rfl _ h0 _ _ hG.z size12D rfl (by simp [Value.oneCell']) ?_
          exact hK _ _ trivial hG.zrow (fun j _ h => YEr12_keep j _ h)
        · have h2 : x 2 = _ := hdep 2 rfl
          clear hdep
          simp only [h2] at hK
          go_simp
          exact hK _ _ rfl hG (fun _ _ h => h)
      case fin2 =>
        intro L x W8 hall hG hY
        have h4 : x 4 = .int .i64 7 := hY 4 (by decide)
        have y0 : W8.cell? ⟨w.heap.size, 0, none⟩ = some (.slice none 0 0) := cell6 hG.z 0
        have y1 : W8.cell? ⟨w.heap.size, 1, none⟩ = some (.slice none 0 0) := cell6 hG.z 1
        have HFIN := Lib.hid (HERR.out W8 hG)
        clear hY hG hall
        rw [h4]
        go_wp2
        refine bodyPost_ret (v := .tuple #[.agg #[.slice none 0 0, .slice none 0 0], .int .i64 7]) ?_ rfl HFIN.out
        simp [results, Tryz.results39, go_sem, y0, y1]
    have hz12 : ¬ (n : Int) > 12 := by omega
    have hd := HD3.out
    rw [if_neg (by simpa using hz), if_neg h12] at hd
    have HUS : Hid (∃ acc : List Us, acc.length = 0 ∧ s2.bs.length ≤ 1000 ∧ Ok s2 ∧ users12 n s2 = ((users12 (n - 0) s2).1, acc ++ (users12 (n - 0) s2).2)) := ⟨[], rfl, hls2, o2, rfl⟩
    obtain ⟨us, hus⟩ : ∃ us, us = users12 n s2 := ⟨_, rfl⟩
    rw [← hus] at hd HUS
    have HD4 : Hid (out = if us.1.e ≠ 0 then (us.1.e, [], []) else if ofD11 us.2 G ≠ 0 then (ofD11 us.2 G, [], []) else if endS us.1 ≠ 0 then (endS us.1, [], []) else (0, us.2, G)) := hd
    have HLN : Hid (us.2.length = n) := by rw [hus]; exact users_length12 n s2
    have hn12 : n ≤ 12 := by omega
    have hb1 : (s2.e == 0) = true := by simpa using hz
    have hb2 : (s2.e != 0) = false := by simpa using hz
    have HLO := Lib.hid HG2.out.lo
    clear hus hd HD3 hlt o2 hls2 h12 hz
    go_wp2
    clear p0 p1 pf hW2
    go_loopg [8, 9, 10, 46] n (fun gg s8 _ _ s46 wr => ∃ (k : Nat) (acc l2 : List Us) (sk : St), k ≤ n ∧ n - k ≤ gg ∧ s46 = .int .u64 k ∧ Hid (acc.length = k ∧ sk.bs.length ≤ 1000 ∧ Ok sk ∧ us = ((users12 (n - k) sk).1, acc ++ (users12 (n - k) sk).2)) ∧ Hid (Rr12 w w2 #[.string ⟨sk.bs.toArray⟩, .int .i64 sk.e] #[.slice none 0 0, .slice none 0 0] wr) ∧ Hid (Mem12 (w2.heap.size + 1) wr s8 k acc l2 ∧ ∀ u ∈ l2, u.Short))
    case atStart =>
      obtain ⟨acc, h0, h1, h2, h3⟩ := HUS.out
      have : acc = [] := List.eq_nil_of_length_eq_zero h0
      subst this
      exact ⟨0, [], [], s2, Nat.zero_le _, by omega, by go_num, ⟨rfl, h1, h2, h3⟩, HG2.out, ⟨rfl, World.ownsRow_nil _ _ _ _, (fun _ h => nomatch h), (fun _ h => nomatch h)⟩, (fun _ h => nomatch h)⟩
    case round =>
      clear HUS HG2 r0 r1 rf hb1 hb2
      obtain ⟨k, acc, l2, sk, hk, hg, rfl, HAC, HRG, HO⟩ := hrel
      by_cases hlt : k < n
      · have hltz : (k : Int) < (n : Int) := by omega
        have hac := HAC.out
        rw [show n - k = (n - (k + 1)) + 1 by omega] at hac
        have HGT : Hid (∀ W, Calls Tryz.prog 111 #[.agg #[.string ⟨sk.bs.toArray⟩, .int .i64 sk.e], .int .i64 2] W fun e w' => ∃ u : Us, e = .returned (.tuple #[.agg #[.string ⟨(getS 2 sk).1.bs.toArray⟩, .int .i64 (getS 2 sk).1.e], .agg #[.string u.nm, .string u.hs, .string u.ml, .bool u.dis, .slice u.ga u.gs.length u.gc]]) ∧ nrm11 u = tell12 sk ∧ u.Short ∧ w'.ownsRow W.heap.size 9 1 (.slice u.ga u.gs.length u.gc) u.gs.length (textCells u.gs) ∧ Turns (fun _ => False) W w') := fun W => rget12_calls sk W hac.2.2.1 hac.2.1
        have HAC2 : Hid ((acc ++ [tell12 sk]).length = k + 1 ∧ (getS 2 sk).1.bs.length ≤ 1000 ∧ Ok (getS 2 sk).1 ∧ us = ((users12 (n - (k + 1)) (getS 2 sk).1).1, (acc ++ [tell12 sk]) ++ (users12 (n - (k + 1)) (getS 2 sk).1).2)) :=
          ⟨by rw [List.length_append, hac.1]; rfl, Nat.le_trans (getS2_left12 sk) hac.2.1, okGet12 hac.2.2.1, by rw [List.append_assoc]; exact hac.2.2.2⟩
        clear hac HAC
        generalize tell12 sk = tk at *
        generalize (getS 2 sk).1 = s4 at *
        have r0 : _ = some (.string ⟨sk.bs.toArray⟩ : Value) := cell6 HRG.out.r 0
        have r1 : _ = some (.int .i64 sk.e : Value) := cell6 HRG.out.r 1
        go_wp2_with fail
        with_reducible refine (HGT.out wr).mono ?_
        rintro e w3 ⟨u, rfl, hnu, hsu, htu, ht⟩
        clear r0 r1
        have HNU := Lib.hid hnu
        have HSU := Lib.hid hsu
        have HTU := Lib.hid htu
        have hRr : w2.heap.size < wr.heap.size := (Array.getElem?_eq_some_iff.1 HRG.out.r).1
        have hRw3 : w2.heap.size < w3.heap.size := Nat.lt_of_lt_of_le hRr ht.size
        obtain ⟨nm, hs, ml, dis, ga, gs, gc⟩ := u
        dsimp only at *
        clear hnu hsu htu HGT
        generalize hgl : gs.length = gl at *
        have HG3 := Lib.hid ((HRG.out.still ht).still (((Turns.refl (fun _ => False) w3).alloc (.cells #[.string ⟨s4.bs.toArray⟩, .int .i64 s4.e] 129)).alloc (.cells #[.string nm, .string hs, .string ml, .bool dis, .slice ga gl gc] 37)))
        have p0 : _ = some (.string ⟨sk.bs.toArray⟩ : Value) := cell6 HG3.out.r 0
        have p1 : _ = some (.int .i64 sk.e : Value) := cell6 HG3.out.r 1
        have pf := free6 HG3.out.r
        have HG4 := Lib.hid (HG3.out.setR (.string ⟨s4.bs.toArray⟩) (.int .i64 s4.e))
        have hu : ((((w3.alloc (.cells #[.string ⟨s4.bs.toArray⟩, .int .i64 s4.e] 129)).alloc (.cells #[.string nm, .string hs, .string ml, .bool dis, .slice ga gl gc] 37)).setCell ⟨w2.heap.size, 0, none⟩ (.string ⟨s4.bs.toArray⟩)).setCell ⟨w2.heap.size, 1, none⟩ (.int .i64 s4.e)).heap[w3.heap.size + 1]? = some (.cells #[.string nm, .string hs, .string ml, .bool dis, .slice ga gl gc] 37 (0, 0)) := by
          rw [Below.heap_setCell _ _ _ _ (show w3.heap.size + 1 ≠ w2.heap.size by omega), Below.heap_setCell _ _ _ _ (show w3.heap.size + 1 ≠ w2.heap.size by omega)]
          exact alloc_at6 (by simp)
        have k0 : _ = some (.string nm : Value) := cell6 hu 0
        have k1 : _ = some (.string hs : Value) := cell6 hu 1
        have k2 : _ = some (.string ml : Value) := cell6 hu 2
        have k3 : _ = some (.bool dis : Value) := cell6 hu 3
        have k4 : _ = some (.slice ga gl gc : Value) := cell6 hu 4
        have ht3 : Turns (fun i => i = w2.heap.size) w3 ((((w3.alloc (.cells #[.string ⟨s4.bs.toArray⟩, .int .i64 s4.e] 129)).alloc (.cells #[.string nm, .string hs, .string ml, .bool dis, .slice ga gl gc] 37)).setCell ⟨w2.heap.size, 0, none⟩ (.string ⟨s4.bs.toArray⟩)).setCell ⟨w2.heap.size, 1, none⟩ (.int .i64 s4.e)) := (((((Turns.refl (fun i => i = w2.heap.size) w3).alloc _).alloc _).setCell (p := ⟨w2.heap.size, 0, none⟩) (fun _ => rfl) _).setCell (p := ⟨w2.heap.size, 1, none⟩) (fun _ => rfl) _)
        have ht4 : Turns (fun i => i = w2.heap.size) wr ((((w3.alloc (.cells #[.string ⟨s4.bs.toArray⟩, .int .i64 s4.e] 129)).alloc (.cells #[.string nm, .string hs, .string ml, .bool dis, .slice ga gl gc] 37)).setCell ⟨w2.heap.size, 0, none⟩ (.string ⟨s4.bs.toArray⟩)).setCell ⟨w2.heap.size, 1, none⟩ (.int .i64 s4.e)) := (ht.mono (S' := fun i => i = w2.heap.size) (fun _ _ f => f.elim)).next ht3 (fun _ _ h => h)
        have HM4 : Hid (Mem12 (w2.heap.size + 1) ((((w3.alloc (.cells #[.string ⟨s4.bs.toArray⟩, .int .i64 s4.e] 129)).alloc (.cells #[.string nm, .string hs, .string ml, .bool dis, .slice ga gl gc] 37)).setCell ⟨w2.heap.size, 0, none⟩ (.string ⟨s4.bs.toArray⟩)).setCell ⟨w2.heap.size, 1, none⟩ (.int .i64 s4.e)) u8 k acc l2) := HO.out.1.turns ht4 (fun j hj he => by have he' : j = w2.heap.size := he; omega)
        have HO4 := Lib.hid HM4.out.row
        have HT4 : Hid (((((w3.alloc (.cells #[.string ⟨s4.bs.toArray⟩, .int .i64 s4.e] 129)).alloc (.cells #[.string nm, .string hs, .string ml, .bool dis, .slice ga gl gc] 37)).setCell ⟨w2.heap.size, 0, none⟩ (.string ⟨s4.bs.toArray⟩)).setCell ⟨w2.heap.size, 1, none⟩ (.int .i64 s4.e)).ownsRow (w2.heap.size + 1) 9 1 (.slice ga gl gc) gl (textCells gs)) := owns_turns HTU.out (by omega) ht3 (fun j hj he => by have he' : j = w2.heap.size := he; omega)
        have HSH := Lib.hid HO.out.2
        have HSZ : Hid (w2.heap.size + 1 ≤ w3.heap.size) := hRw3
        clear hu HO HRG HG3 ht ht3 ht4 HTU hRr hRw3
        go_wp2_with (first
          | (at_builtin; refine wpList_append_own _ rfl _ _ 27 rfl (w2.heap.size + 1) 37 i0 (.agg #[.string ⟨#[]⟩, .string ⟨#[]⟩, .string ⟨#[]⟩, .bool false, .slice none 0 0]) 5 80 Tryz.underlying27 hi hz0 hz1 hz2 rfl (by decide) _ _ _ rfl (HO4.out.alloc _) _ 1 1 [.string nm, .string hs, .string ml, .bool dis, .slice ga gl gc] rfl rfl
              (fun j u hu => by rw [Addr.add_lit, Nat.zero_add, World.cell?_alloc_at _ _ _ _ (by simp)]; simpa using hu) (by simp [Value.oneCell']) (by unfold maxLen; omega) (by omega) (by have := HSZ.out; simp; omega) ?_
             intro v' w5 hown' hgrow _
             have HO5 := Lib.hid hown'
             have HG5 := Lib.hid hgrow
             clear hown' hgrow)
          | fail)
        go_roundg (n - (k + 1))
        case measure => omega
        case rel =>
          have ht5 : Turns (fun i => u8.ownBlock = some i) ((((w3.alloc (.cells #[.string ⟨s4.bs.toArray⟩, .int .i64 s4.e] 129)).alloc (.cells #[.string nm, .string hs, .string ml, .bool dis, .slice ga gl gc] 37)).setCell ⟨w2.heap.size, 0, none⟩ (.string ⟨s4.bs.toArray⟩)).setCell ⟨w2.heap.size, 1, none⟩ (.int .i64 s4.e)) w5 := (((Turns.refl (fun i => u8.ownBlock = some i) _).alloc _).grown HG5.out (fun k hk _ => hk))
          refine ⟨k + 1, acc ++ [tk], l2 ++ [⟨nm, hs, ml, dis, ga, gs, gc⟩], s4, by omega, by omega, by go_num, HAC2, ?_, ?_⟩
          · exact Lib.hid (HG4.out.apart ht5 (fun i hi => (HO4.out.lt i hi).1))
          · refine Lib.hid ⟨⟨by rw [List.map_append, HM4.out.same, List.map_singleton, HNU.out], ?_, fun x hx => ?_, fun x hx => ?_⟩, fun x hx => ?_⟩
            · rw [ucells11_snoc]
              subst hgl
              exact HO5.out
            · rcases List.mem_append.1 hx with hx | hx
              · exact HM4.out.wide x hx
              · rw [List.mem_singleton.1 hx]
                have := HSU.out
                exact ⟨Nat.le_trans this.nm (by decide), Nat.le_trans this.hs (by decide), Nat.le_trans this.ml (by decide), fun s hs => Nat.le_trans (this.all s hs) (by decide)⟩
            · rcases List.mem_append.1 hx with hx | hx
              · exact texts_beside12 (HM4.out.txt x hx) HO4.out ht5
              · rw [List.mem_singleton.1 hx]
                subst hgl
                exact texts_beside12 HT4.out HO4.out ht5
            · rcases List.mem_append.1 hx with hx | hx
              · exact HSH.out x hx
              · rw [List.mem_singleton.1 hx]; exact HSU.out
      · have hltz : ¬ (k : Int) < (n : Int) := by omega
        obtain rfl : k = n := by omega
        have hac := HAC.out
        rw [Nat.sub_self] at hac
        have e1 : us.1 = sk := by rw [hac.2.2.2]; rfl
        have e2 : us.2 = acc := by rw [hac.2.2.2]; exact List.append_nil acc
        have hd := HD4.out
        rw [e1, e2] at hd
        have HD5 := Lib.hid hd
        have HLA := Lib.hid hac.1
        obtain ⟨A, c, rfl⟩ := owns_shape (ownsRow_low10 HO.out.1.row (Nat.zero_le _))
        have hroom := owns_room12 HO.out.1.row
        clear hac e1 e2 HAC hd HD4 HLN hi hz0 hz1 hz2
        have r0 : _ = some (.string ⟨sk.bs.toArray⟩ : Value) := cell6 HRG.out.r 0
        have r1 : _ = some (.int .i64 sk.e : Value) := cell6 HRG.out.r 1
        have rf := free6 HRG.out.r
        obtain ⟨tb, te⟩ := sk
        dsimp only at *
        by_cases h0 : te = 0
        case neg =>
          have hd := HD5.out
          rw [if_pos h0] at hd
          have hz : (te == 0) = false := by simpa using h0
          have hz' : (te != 0) = true := by simpa using h0
          have HERR : Hid (∀ W, Rr12 w w2 #[.string ⟨tb.toArray⟩, .int .i64 te] #[.slice none 0 0, .slice none 0 0] W → RRead12 w out (.returned (.tuple #[.agg #[.slice none 0 0, .slice none 0 0], .int .i64 te])) W) := fun W h => by
            rw [hd]
            exact ⟨⟨none, none, 0, 0, 0, 0, rfl, fun h => absurd h h0⟩, h.t.below (fun _ f => f.elim)⟩
          clear hd HD5 h0 HO hroom HLA HOG HMG HZG
          go_wp2_with fail
          clear r0 r1 rf
          refine wp_region_st2 (by kernel_rfl) (YEr12 w2.heap.size te) (fun _ W => Rr12 w w2 #[.string ⟨tb.toArray⟩, .int .i64 te] #[.slice none 0 0, .slice none 0 0] W) ?F3 ?hF3 (by kernel_rfl) (by kernel_rfl) (HRG.out.still ((Turns.refl _ _).drew)) ?step3 ?fin3
          case hF3 =>
            intro x
            simp only [List.map_cons, List.map_nil, putL, Act.put, List.setIfInBounds_toArray, List.set_cons_zero, List.set_cons_succ, Nat.zero_add, Nat.reduceAdd]
            exact rfl
          case step3 =>
            refine ⟨?_, ?_, ?_, ?_, ?_, trivial⟩
            all_goals intro L x W hL hd hG hdep K hK
            · have n0 : W.cell? ⟨w.heap.size + 1, 0, none⟩ = some (.slice none 0 0) := cell6 hG.n 0
              have n1 : W.cell? ⟨w.heap.size + 1, 1, none⟩ = some (.slice none 0 0) := cell6 hG.n 1
              clear hdep
              go_simp
              exact hK _ _ rfl hG (fun _ _ h => h)
            · clear hdep
              go_simp
              exact hK _ _ rfl hG (fun _ _ h => h)
            · have h1 : x 1 = _ := hdep 1 rfl
              have r1 : W.cell? ⟨w2.heap.size, 1, none⟩ = some (.int .i64 te) := cell6 hG.r 1
              clear hdep
              simp only [h1] at hK
              go_simp
              exact hK _ _ rfl hG (fun _ _ h => h)
            · have h0 : x 0 = .agg #[.slice none 0 0, .slice none 0 0] := hdep 0 rfl
              refine step_store6 (by rfl) TD11 (.tmp 2) (.tmp 78) rfl w.heap.size rfl _ h0 _ _ hG.z size12D rfl (by simp [Value.oneCell']) ?_
              exact hK _ _ trivial hG.zrow (fun j _ h => YEr12_keep j _ h)
            · have h2 : x 2 = _ := hdep 2 rfl
              clear hdep
              simp only [h2] at hK
              go_simp
              exact hK _ _ rfl hG (fun _ _ h => h)
          case fin3 =>
            intro L x W8 hall hG hY
            have h4 : x 4 = .int .i64 te := hY 4 (by decide)
            have y0 : W8.cell? ⟨w.heap.size, 0, none⟩ = some (.slice none 0 0) := cell6 hG.z 0
            have y1 : W8.cell? ⟨w.heap.size, 1, none⟩ = some (.slice none 0 0) := cell6 hG.z 1
            have HFIN := Lib.hid (HERR.out W8 hG)
            clear hY hG hall
            rw [h4]
            go_wp2
            refine bodyPost_ret (v := .tuple #[.agg #[.slice none 0 0, .slice none 0 0], .int .i64 te]) ?_ rfl HFIN.out
            simp [results, Tryz.results39, go_sem, y0, y1]
        subst h0
        have hd := HD5.out
        rw [if_neg (by simp)] at hd
        have HD6 := Lib.hid hd
        have hrdu : RdU7 wr A l2 := owns_users11 HO.out.1.row (by rw [← HLA.out, ← HO.out.1.same, List.length_map])
        have HRO : Hid (Calls Tryz.prog 28 #[.slice A k c, .slice A2 m c2] wr (Errs5 (ofD11 acc G) wr)) := by
          have := rofd11_calls A A2 c c2 k m l2 G wr (by rw [← HLA.out, ← HO.out.1.same, List.length_map]) (by omega) hroom.1 hroom.2 hrdu HO.out.1.ok (fun u hu => ⟨(HO.out.2 u hu).nm, (HO.out.2 u hu).hs, (HO.out.2 u hu).ml, (HO.out.2 u hu).all⟩) HMG.out fg (HOG.out wr HRG.out.t2) HZG.out
          rwa [show ofD11 l2 G = ofD11 acc G by rw [← HO.out.1.same, of_nrm11]] at this
        have HAN : Hid (∀ W, Turns (fun i => i = w.heap.size ∨ i = w2.heap.size) wr W → Turns (fun i => i = w.heap.size) w2 W → ∃ l2 : List Us, l2.map nrm11 = acc ∧ k = l2.length ∧ RdU7 W A l2 ∧ (∀ u ∈ l2, u.Ok W) ∧ m = G.length ∧ RdS W A2 G) := fun W h1 h2 => by
          have hm := HO.out.1.turns h1 (fun j hj he => by have := HLO.out; rcases he with he | he <;> omega)
          exact ⟨l2, hm.same, by rw [← HLA.out, ← hm.same, List.length_map], owns_users11 hm.row (by rw [← HLA.out, ← hm.same, List.length_map]), hm.ok, HMG.out, HOG.out W h2⟩
        clear hd HD5 HO hroom hrdu HOG HMG HZG
        generalize ofD11 acc G = oe at *
        go_wp2_with fail
        with_reducible refine HRO.out.mono ?_
        rintro e w3 ⟨rfl, hb3⟩
        have HGA := Lib.hid (HRG.out.still (Turns.of_below hb3 _))
        have HT3 : Hid (Turns (fun i => i = w.heap.size ∨ i = w2.heap.size) wr w3) := Turns.of_below hb3 _
        clear r0 r1 rf hb3 HRO
        have p0 : _ = some (.string ⟨tb.toArray⟩ : Value) := cell6 HGA.out.r 0
        have p1 : _ = some (.int .i64 0 : Value) := cell6 HGA.out.r 1
        have pf := free6 HGA.out.r
        have hg5 := HGA.out.setE (.int .i64 oe)
        have HG5 := Lib.hid hg5
        have r0 : _ = some (.string ⟨tb.toArray⟩ : Value) := cell6 hg5.r 0
        have r1 : _ = some (.int .i64 oe : Value) := cell6 hg5.r 1
        have rf := free6 hg5.r
        have HT5 : Hid (Turns (fun i => i = w.heap.size ∨ i = w2.heap.size) wr (w3.setCell ⟨w2.heap.size, 1, none⟩ (.int .i64 oe))) := HT3.out.setCell (p := ⟨w2.heap.size, 1, none⟩) (fun _ => .inr rfl) _
        clear hg5 HGA HT3 HRG
        by_cases h1 : oe = 0
        case neg =>
          have hd := HD6.out
          rw [if_pos h1] at hd
          have hz : (oe == 0) = false := by simpa using h1
          have hz' : (oe != 0) = true := by simpa using h1
          have HERR : Hid (∀ W, Rr12 w w2 #[.string ⟨tb.toArray⟩, .int .i64 oe] #[.slice none 0 0, .slice none 0 0] W → RRead12 w out (.returned (.tuple #[.agg #[.slice none 0 0, .slice none 0 0], .int .i64 oe])) W) := fun W h => by
            rw [hd]
            exact ⟨⟨none, none, 0, 0, 0, 0, rfl, fun h => absurd h h1⟩, h.t.below (fun _ f => f.elim)⟩
          clear hd HD6 h1 HAN HT5
          go_wp2_with fail
          clear p0 p1 pf r0 r1 rf
          refine wp_region_st2 (by kernel_rfl) (YEr12 w2.heap.size oe) (fun _ W => Rr12 w w2 #[.string ⟨tb.toArray⟩, .int .i64 oe] #[.slice none 0 0, .slice none 0 0] W) ?F4 ?hF4 (by kernel_rfl) (by kernel_rfl) (HG5.out.still ((Turns.refl _ _).drew)) ?step4 ?fin4
          case hF4 =>
            intro x
            simp only [List.map_cons, List.map_nil, putL, Act.put, List.setIfInBounds_toArray, List.set_cons_zero, List.set_cons_succ, Nat.zero_add, Nat.reduceAdd]
            exact rfl
          case step4 =>
            refine ⟨?_, ?_, ?_, ?_, ?_, trivial⟩
            all_goals intro L x W hL hd hG hdep K hK
            · have n0 : W.cell? ⟨w.heap.size + 1, 0, none⟩ = some (.slice none 0 0) := cell6 hG.n 0
              have n1 : W.cell? ⟨w.heap.size + 1, 1, none⟩ = some (.slice none 0 0) := cell6 hG.n 1
              clear hdep
              go_simp
              exact hK _ _ rfl hG (fun _ _ h => h)
            · clear hdep
              go_simp
              exact hK _ _ rfl hG (fun _ _ h => h)
            · have h1 : x 1 = _ := hdep 1 rfl
              have r1 : W.cell? ⟨w2.heap.size, 1, none⟩ = some (.int .i64 oe) := cell6 hG.r 1
              clear hdep
              simp only [h1] at hK
              go_simp
              exact hK _ _ rfl hG (fun _ _ h => h)
            · have h0 : x 0 = .agg #[.slice none 0 0, .slice none 0 0] := hdep 0 rfl
              refine step_store6 (by rfl) TD11 (.tmp 2) (.tmp 78) rfl w.heap.size rfl _ h0 _ _ hG.z size12D rfl (by simp [Value.oneCell']) ?_
              exact hK _ _ trivial hG.zrow (fun j _ h => YEr12_keep j _ h)
            · have h2 : x 2 = _ := hdep 2 rfl
              clear hdep
              simp only [h2] at hK
              go_simp
              exact hK _ _ rfl hG (fun _ _ h => h)
          case fin4 =>
            intro L x W8 hall hG hY
            have h4 : x 4 = .int .i64 oe := hY 4 (by decide)
            have y0 : W8.cell? ⟨w.heap.size, 0, none⟩ = some (.slice none 0 0) := cell6 hG.z 0
            have y1 : W8.cell? ⟨w.heap.size, 1, none⟩ = some (.slice none 0 0) := cell6 hG.z 1
            have HFIN := Lib.hid (HERR.out W8 hG)
            clear hY hG hall
            rw [h4]
            go_wp2
            refine bodyPost_ret (v := .tuple #[.agg #[.slice none 0 0, .slice none 0 0], .int .i64 oe]) ?_ rfl HFIN.out
            simp [results, Tryz.results39, go_sem, y0, y1]
        subst h1
        have hd := HD6.out
        rw [if_neg (by simp)] at hd
        cases tb with
        | cons y ys =>
          have hd2 : out = (3, [], []) := hd
          have hg6 := HG5.out.setE (.int .i64 3)
          have HG6 := Lib.hid hg6
          have q1 : _ = some (.int .i64 3 : Value) := cell6 hg6.r 1
          have HERR : Hid (∀ W, Rr12 w w2 #[.string ⟨(y :: ys).toArray⟩, .int .i64 3] #[.slice none 0 0, .slice none 0 0] W → RRead12 w out (.returned (.tuple #[.agg #[.slice none 0 0, .slice none 0 0], .int .i64 3])) W) := fun W h => by
            rw [hd2]
            exact ⟨⟨none, none, 0, 0, 0, 0, rfl, fun h => by cases h⟩, h.t.below (fun _ f => f.elim)⟩
          have hne : ((⟨(y :: ys).toArray⟩ : ByteArray).toList != (⟨#[]⟩ : ByteArray).toList) = true := by simp [ByteArray.toList_eq]
          have hne2 : (⟨(y :: ys).toArray⟩ : ByteArray).toList.isEmpty = false := by simp [ByteArray.toList_eq]
          clear hd hd2 HD6 HAN HT5 hg6 HG5
          generalize (⟨(y :: ys).toArray⟩ : ByteArray) = yb at *
          go_wp2_with fail
          clear p0 p1 pf r0 r1 rf q1
          refine wp_region_st2 (by kernel_rfl) (YEr12 w2.heap.size 3) (fun _ W => Rr12 w w2 #[.string yb, .int .i64 3] #[.slice none 0 0, .slice none 0 0] W) ?F5 ?hF5 (by kernel_rfl) (by kernel_rfl) (HG6.out.still ((Turns.refl _ _).drew)) ?step5 ?fin5
          case hF5 =>
            intro x
            simp only [List.map_cons, List.map_nil, putL, Act.put, List.setIfInBounds_toArray, List.set_cons_zero, List.set_cons_succ, Nat.zero_add, Nat.reduceAdd]
            exact rfl
          case step5 =>
            refine ⟨?_, ?_, ?_, ?_, ?_, trivial⟩
            all_goals intro L x W hL hd hG hdep K hK
            · have n0 : W.cell? ⟨w.heap.size + 1, 0, none⟩ = some (.slice none 0 0) := cell6 hG.n 0
              have n1 : W.cell? ⟨w.heap.size + 1, 1, none⟩ = some (.slice none 0 0) := cell6 hG.n 1
              clear hdep
              go_simp
              exact hK _ _ rfl hG (fun _ _ h => h)
            · clear hdep
              go_simp
              exact hK _ _ rfl hG (fun _ _ h => h)
            · have h1 : x 1 = _ := hdep 1 rfl
              have r1 : W.cell? ⟨w2.heap.size, 1, none⟩ = some (.int .i64 3) := cell6 hG.r 1
              clear hdep
              simp only [h1] at hK
              go_simp
              exact hK _ _ rfl hG (fun _ _ h => h)
            · have h0 : x 0 = .agg #[.slice none 0 0, .slice none 0 0] := hdep 0 rfl
              refine step_store6 (by rfl) TD11 (.tmp 2) (.tmp 78) rfl w.heap.size rfl _ h0 _ _ hG.z size12D rfl (by simp [Value.oneCell']) ?_
              exact hK _ _ trivial hG.zrow (fun j _ h => YEr12_keep j _ h)
            · have h2 : x 2 = _ := hdep 2 rfl
              clear hdep
              simp only [h2] at hK
              go_simp
              exact hK _ _ rfl hG (fun _ _ h => h)
          case fin5 =>
            intro L x W8 hall hG hY
            have h4 : x 4 = .int .i64 3 := hY 4 (by decide)
            have y0 : W8.cell? ⟨w.heap.size, 0, none⟩ = some (.slice none 0 0) := cell6 hG.z 0
            have y1 : W8.cell? ⟨w.heap.size, 1, none⟩ = some (.slice none 0 0) := cell6 hG.z 1
            have HFIN := Lib.hid (HERR.out W8 hG)
            clear hY hG hall
            rw [h4]
            go_wp2
            refine bodyPost_ret (v := .tuple #[.agg #[.slice none 0 0, .slice none 0 0], .int .i64 3]) ?_ rfl HFIN.out
            simp [results, Tryz.results39, go_sem, y0, y1]
        | nil =>
          have hd2 : out = (0, acc, G) := hd
          have z0 : _ = some (.slice none 0 0 : Value) := cell6 HG5.out.z 0
          have z1 : _ = some (.slice none 0 0 : Value) := cell6 HG5.out.z 1
          have zf := free6 HG5.out.z
          have hg7 := HG5.out.setZ (.slice A k c) (.slice A2 m c2)
          have y0 : _ = some (.slice A k c : Value) := cell6 hg7.z 0
          have y1 : _ = some (.slice A2 m c2 : Value) := cell6 hg7.z 1
          have HFIN : Hid (RRead12 w out (.returned (.tuple #[.agg #[.slice A k c, .slice A2 m c2], .int .i64 0])) (((w3.setCell ⟨w2.heap.size, 1, none⟩ (.int .i64 0)).setCell ⟨w.heap.size, 0, none⟩ (.slice A k c)).setCell ⟨w.heap.size, 1, none⟩ (.slice A2 m c2))) := by
            rw [hd2]
            refine ⟨⟨A, A2, k, m, c, c2, rfl, fun _ => HAN.out _ ((HT5.out.setCell (p := ⟨w.heap.size, 0, none⟩) (fun _ => .inl rfl) _).setCell (p := ⟨w.heap.size, 1, none⟩) (fun _ => .inl rfl) _) hg7.t2⟩, hg7.t.below (fun _ f => f.elim)⟩
          have hnil : (⟨([] : List UInt8).toArray⟩ : ByteArray) = ⟨#[]⟩ := rfl
          rw [hnil] at p0 r0
          clear hd hd2 HD6 HAN HT5 hg7 HG5
          go_wp2
          refine bodyPost_ret (v := .tuple #[.agg #[.slice A k c, .slice A2 m c2], .int .i64 0]) ?_ rfl HFIN.out
          simp [results, Tryz.results39, go_sem, y0, y1]
end Go.Proofs.YtmcomnocpibiiaaGreatDoor


/-
  Operations and bytes, plain: what is written is read, what is read is what was written, and the document's way of reading is the code's.
  Conditions: none beyond each theorem's own.
-/
import Derived.Test.YtadecmjojnhlnaaOpRead
namespace Go.Proofs.Ytadecmjojnhlnaa
open Go.RowKit

theorem le_val14 : ∀ m : List UInt8, le (val m) m.length = m
  | [] => rfl
  | b :: l => by
    have hb : b.toNat < 256 := b.toNat_lt
    rw [val, List.length_cons, le_cons, show (b.toNat + 256 * val l) / 256 = val l by omega, le_val14 l]
    congr 1
    apply UInt8.toNat_inj.1
    simp only [UInt8.toNat_ofNat']
    omega
theorem failS_e14 {st : St} {e : Int} (h : st.e ≠ 0) : failS st e = st := by unfold failS; rw [if_pos (.inr h)]
theorem failS_ne14 {st : St} {e : Int} (he : e ≠ 0) : (failS st e).e ≠ 0 := by
  unfold failS
  by_cases hs : st.e = 0
  · rw [if_neg (by simp [he, hs])]; exact he
  · rw [if_pos (.inr hs)]; exact hs
theorem takeS_keep14 {st : St} (n : Nat) (h : st.e ≠ 0) : (takeS st n).1.e = st.e := by
  unfold takeS
  split
  · rw [failS_e14 h]
  · rfl
theorem failS_keep14 {st : St} (e : Int) (h : st.e ≠ 0) : (failS st e).e = st.e := by rw [failS_e14 h]
theorem numS_keep14 {st : St} (n : Nat) (h : st.e ≠ 0) : (numS st n).1.e = st.e := takeS_keep14 n h
theorem lengthS_keep14 {st : St} (m : Int) (h : st.e ≠ 0) : (lengthS st m).1.e = st.e := by
  have h1 := numS_keep14 2 h
  unfold lengthS
  split
  · rw [failS_keep14 _ (by rw [h1]; exact h), h1]
  · exact h1
theorem textS_keep14 {st : St} (m : Int) (h : st.e ≠ 0) : (textS st m).1.e = st.e := by
  have h1 := lengthS_keep14 m h
  unfold textS
  rw [takeS_keep14 _ (by rw [h1]; exact h), h1]
theorem takeS_got14 {st : St} {n : Nat} (h : (takeS st n).1.e = 0) : st.e = 0 ∧ (takeS st n).2.length = n ∧ st.bs = (takeS st n).2 ++ (takeS st n).1.bs := by
  unfold takeS at h ⊢
  by_cases hl : st.bs.length < n
  · rw [if_pos hl] at h
    exact absurd h (failS_ne14 (by decide))
  · rw [if_neg hl] at h ⊢
    exact ⟨h, by simp only [List.length_take]; omega, (List.take_append_drop n st.bs).symm⟩
theorem numS_got14 {st : St} {n : Nat} (h : (numS st n).1.e = 0) : st.e = 0 ∧ st.bs = le (numS st n).2 n ++ (numS st n).1.bs := by
  obtain ⟨h1, h2, h3⟩ := takeS_got14 (st := st) (n := n) h
  refine ⟨h1, ?_⟩
  have := le_val14 (takeS st n).2
  rw [h2] at this
  show st.bs = le (val (takeS st n).2) n ++ (takeS st n).1.bs
  rw [this]
  exact h3
theorem lengthS_got14 {st : St} {m : Int} (h : (lengthS st m).1.e = 0) : st.e = 0 ∧ st.bs = le (lengthS st m).2 2 ++ (lengthS st m).1.bs := by
  unfold lengthS at h ⊢
  split at h
  · exact absurd h (failS_ne14 (by decide))
  · rename_i hc
    rw [if_neg hc]
    exact numS_got14 h
theorem textS_got14 {st : St} {m : Int} (h : (textS st m).1.e = 0) : st.e = 0 ∧ st.bs = textB (tx14 (textS st m).2) ++ (textS st m).1.bs := by
  obtain ⟨h1, h2, h3⟩ := takeS_got14 (st := (lengthS st m).1) (n := (lengthS st m).2) h
  obtain ⟨h4, h5⟩ := lengthS_got14 h1
  refine ⟨h4, ?_⟩
  show st.bs = textB (tx14 (takeS (lengthS st m).1 (lengthS st m).2).2) ++ (takeS (lengthS st m).1 (lengthS st m).2).1.bs
  unfold textB
  rw [tx14_list, tx14_size, h2, List.append_assoc, ← h3]
  exact h5
theorem takeS_put14 (l r : List UInt8) : takeS ⟨l ++ r, 0⟩ l.length = (⟨r, 0⟩, l) := by
  unfold takeS
  rw [if_neg (by simp), List.drop_left, List.take_left]
theorem numS_put14 (x k : Nat) (r : List UInt8) : numS ⟨le x k ++ r, 0⟩ k = (⟨r, 0⟩, x % 256 ^ k) := by
  have h := takeS_put14 (le x k) r
  rw [le_length] at h
  unfold numS
  rw [h, val_le]
theorem lengthS_put14 (n : Nat) (r : List UInt8) (most : Int) (hn : n ≤ 65535) (hm : (n : Int) ≤ most) : lengthS ⟨le n 2 ++ r, 0⟩ most = (⟨r, 0⟩, n) := by
  unfold lengthS
  rw [numS_put14, Nat.mod_eq_of_lt (by omega), if_neg (by omega)]
theorem textS_put14 (s : ByteArray) (r : List UInt8) (most : Int) (hs : s.size ≤ 65535) (hm : (s.size : Int) ≤ most) : textS ⟨textB s ++ r, 0⟩ most = (⟨r, 0⟩, s.data.toList) := by
  unfold textS textB
  rw [List.append_assoc, lengthS_put14 _ _ _ hs hm]
  have h := takeS_put14 s.data.toList r
  rwa [bytes_length] at h
theorem endS_zero14 {st : St} (h : endS st = 0) : st.bs = [] ∧ st.e = 0 := by
  unfold endS at h
  split at h
  · cases h
  · rename_i hl
    exact ⟨List.eq_nil_of_length_eq_zero (by omega), h⟩
theorem u8_one14 (b : UInt8) : b.toNat % 256 ^ 1 = b.toNat := Nat.mod_eq_of_lt (by have := b.toNat_lt; omega)
theorem u8_back14 (b : UInt8) : UInt8.ofNat b.toNat = b := by simp
/-- What is written is read. -/
theorem back14 {o : O14} (h : chk14 o = 0) (hl : Lit14 o) : rde14 (opB14 o) = 0 ∧ rdv14 (opB14 o) = o := by
  have hf : frm_14 o = true ∧ ¬ 64 < (opB14 o).length := by
    unfold chk14 at h
    by_cases hf : frm_14 o = true
    · rw [if_pos hf] at h
      by_cases hlen : 64 < (opB14 o).length
      · rw [if_pos hlen] at h; cases h
      · exact ⟨hf, hlen⟩
    · rw [if_neg hf] at h; cases h
  obtain ⟨hf, hlen⟩ := hf
  have hn : numS ⟨opB14 o, 0⟩ 1 = (⟨(sig14 o.kd.toNat).flatMap (part14 o), 0⟩, o.kd.toNat) := by
    unfold opB14
    rw [numS_put14, u8_one14]
  have hk : know14 o.kd.toNat = true := by
    by_cases hk : know14 o.kd.toNat = true
    · exact hk
    · rw [frm_no14 (by simpa using hk)] at hf; cases hf
  have hhd : hd14 (opB14 o) = ⟨(sig14 o.kd.toNat).flatMap (part14 o), 0⟩ := by unfold hd14; rw [hn, if_pos hk]
  have hdo : rdo14 (opB14 o) = (⟨[], 0⟩, o) := by
    unfold rdo14
    rw [hhd, hn]
    dsimp only
    rw [u8_back14]
    obtain ⟨h1, h2⟩ := hl
    rcases cls14 o.kd.toNat with ⟨_, hs, _⟩ | ⟨_, hs, _⟩ | ⟨_, hs, _⟩ | ⟨_, hs, _⟩ | ⟨_, _, hk2⟩
    · rw [frm_ab14 hs hk, decide_eq_true_eq] at hf
      obtain ⟨kd, a, b, nd, rl⟩ := o
      obtain ⟨rfl, rfl⟩ := hf
      dsimp only at hs h1 h2 ⊢
      rw [hs]
      have e1 : ([97, 98] : List UInt8).flatMap (part14 ⟨kd, a, b, 0, 0⟩) = textB a ++ (textB b ++ []) := by simp [part14]
      rw [e1]
      have t1 := textS_put14 a (textB b ++ []) 65535 h1 (by omega)
      have t2 := textS_put14 b [] 65535 h2 (by omega)
      simp only [fold14, List.foldl_cons, List.foldl_nil, stp14, opp14, true_or, or_true, if_true, t1, t2, zero14]
      rw [if_neg (by decide)]
      simp only [tx14_back]
    · rw [frm_a14 hs hk, decide_eq_true_eq] at hf
      obtain ⟨kd, a, b, nd, rl⟩ := o
      obtain ⟨hb, hn0, hr0⟩ := hf
      dsimp only at hb hn0 hr0
      subst hb hn0 hr0
      dsimp only at hs h1 h2 ⊢
      rw [hs]
      have e1 : ([97] : List UInt8).flatMap (part14 ⟨kd, a, ⟨#[]⟩, 0, 0⟩) = textB a ++ [] := by simp [part14]
      rw [e1]
      have t1 := textS_put14 a [] 65535 h1 (by omega)
      simp only [fold14, List.foldl_cons, List.foldl_nil, stp14, opp14, true_or, if_true, t1, zero14, tx14_back]
    · rw [frm_014 hs hk, decide_eq_true_eq] at hf
      obtain ⟨kd, a, b, nd, rl⟩ := o
      obtain ⟨ha, hb, hn0, hr0⟩ := hf
      dsimp only at ha hb hn0 hr0
      subst ha hb hn0 hr0
      dsimp only at hs ⊢
      rw [hs]
      rfl
    · rw [frm_nr14 hs hk, decide_eq_true_eq] at hf
      obtain ⟨kd, a, b, nd, rl⟩ := o
      obtain ⟨ha, hb, hn0, hr0, hr1⟩ := hf
      dsimp only at ha hb hn0 hr0 hr1
      subst ha hb
      dsimp only at hs ⊢
      rw [hs]
      have e1 : ([110, 114] : List UInt8).flatMap (part14 ⟨kd, ⟨#[]⟩, ⟨#[]⟩, nd, rl⟩) = le nd.toNat 1 ++ (le rl.toNat 1 ++ []) := by simp [part14]
      rw [e1]
      have t1 : numS ⟨le nd.toNat 1 ++ (le rl.toNat 1 ++ []), 0⟩ 1 = (⟨le rl.toNat 1 ++ [], 0⟩, nd.toNat) := by rw [numS_put14, u8_one14]
      have t2 : numS ⟨le rl.toNat 1 ++ [], 0⟩ 1 = (⟨[], 0⟩, rl.toNat) := by rw [numS_put14, u8_one14]
      have d1 : snd14 nd.toNat nd.toNat 110 = true := by unfold snd14; rw [if_pos rfl]; exact decide_eq_true hn0
      have d2 : snd14 rl.toNat rl.toNat 114 = true := by unfold snd14; rw [if_neg (by decide), if_pos rfl]; simp [hr0, hr1]
      have q1 : stp14 ⟨le nd.toNat 1 ++ (le rl.toNat 1 ++ []), 0⟩ 110 = ⟨le rl.toNat 1 ++ [], 0⟩ := by unfold stp14; rw [if_neg (by decide), t1]; dsimp only; rw [d1, if_pos rfl]
      have q2 : stp14 ⟨le rl.toNat 1 ++ [], 0⟩ 114 = ⟨[], 0⟩ := by unfold stp14; rw [if_neg (by decide), t2]; dsimp only; rw [d2, if_pos rfl]
      have p1 : opp14 ⟨le nd.toNat 1 ++ (le rl.toNat 1 ++ []), 0⟩ (zero14 kd) 110 = ⟨kd, ⟨#[]⟩, ⟨#[]⟩, nd, 0⟩ := by unfold opp14; rw [if_neg (by decide), if_neg (by decide), if_pos rfl, t1, u8_back14]; rfl
      have p2 : opp14 ⟨le rl.toNat 1 ++ [], 0⟩ ⟨kd, ⟨#[]⟩, ⟨#[]⟩, nd, 0⟩ 114 = ⟨kd, ⟨#[]⟩, ⟨#[]⟩, nd, rl⟩ := by unfold opp14; rw [if_neg (by decide), if_neg (by decide), if_neg (by decide), t2, u8_back14]
      simp only [fold14, List.foldl_cons, List.foldl_nil, q1, p1, q2, p2]
    · rw [hk] at hk2; cases hk2
  have he : rde14 (opB14 o) = 0 := by
    unfold rde14
    rw [if_neg hlen, hdo]
    rfl
  exact ⟨he, by unfold rdv14; rw [if_pos he, hdo]⟩
theorem chk_of14 {o : O14} {bs : List UInt8} (hf : frm_14 o = true) (hb : opB14 o = bs) (hl : ¬ 64 < bs.length) : chk14 o = 0 := by
  unfold chk14
  rw [if_pos hf, hb, if_neg hl]
set_option maxHeartbeats 2000000 in
/-- What is read is what was written. -/
theorem got14 {bs : List UInt8} (h : rde14 bs = 0) : chk14 (rdv14 bs) = 0 ∧ opB14 (rdv14 bs) = bs ∧ Lit14 (rdv14 bs) := by
  have hv : rdv14 bs = (rdo14 bs).2 := by unfold rdv14; rw [if_pos h]
  rw [hv]
  clear hv
  have hlen : ¬ 64 < bs.length := by
    intro hl
    unfold rde14 at h
    rw [if_pos hl] at h
    cases h
  have he : endS (rdo14 bs).1 = 0 := by
    unfold rde14 at h
    rwa [if_neg hlen] at h
  obtain ⟨hnil, he⟩ := endS_zero14 he
  have hku : (UInt8.ofNat (numS ⟨bs, 0⟩ 1).2).toNat = (numS ⟨bs, 0⟩ 1).2 := num_u814 _
  have hg := numS_got14 (st := ⟨bs, 0⟩) (n := 1)
  unfold rdo14 hd14 at hnil he ⊢
  generalize (numS ⟨bs, 0⟩ 1).1 = s at *
  generalize (numS ⟨bs, 0⟩ 1).2 = k at *
  clear h
  generalize hkd : UInt8.ofNat k = kd at *
  subst hku
  rcases cls14 kd.toNat with ⟨_, hs, hk⟩ | ⟨_, hs, hk⟩ | ⟨_, hs, hk⟩ | ⟨_, hs, hk⟩ | ⟨_, hs, hk⟩
  · rw [hs, hk, if_pos rfl] at hnil he ⊢
    simp only [fold14, List.foldl_cons, List.foldl_nil, stp14, opp14, true_or, or_true, if_true, zero14] at hnil he ⊢
    rw [if_neg (by decide)]
    obtain ⟨g1, g2⟩ := textS_got14 he
    obtain ⟨g3, g4⟩ := textS_got14 g1
    obtain ⟨_, g5⟩ := hg g3
    rw [hnil, List.append_nil] at g2
    rw [g2] at g4
    generalize tx14 (textS s 65535).2 = a at *
    generalize tx14 (textS (textS s 65535).1 65535).2 = b at *
    have hb : opB14 ⟨kd, a, b, 0, 0⟩ = bs := by
      show le kd.toNat 1 ++ (sig14 kd.toNat).flatMap _ = bs
      rw [hs]
      show _ = (⟨bs, 0⟩ : St).bs
      rw [g5, g4]
      simp [part14]
    have hn := len_ab14 (o := ⟨kd, a, b, 0, 0⟩) hs
    rw [hb] at hn
    dsimp only at hn
    have hf : frm_14 ⟨kd, a, b, 0, 0⟩ = true := (frm_ab14 (o := ⟨kd, a, b, 0, 0⟩) hs hk).trans (decide_eq_true ⟨rfl, rfl⟩)
    refine ⟨chk_of14 hf hb hlen, hb, ?_, ?_⟩
    · show a.size ≤ 65535; omega
    · show b.size ≤ 65535; omega
  · rw [hs, hk, if_pos rfl] at hnil he ⊢
    simp only [fold14, List.foldl_cons, List.foldl_nil, stp14, opp14, true_or, if_true, zero14] at hnil he ⊢
    obtain ⟨g1, g2⟩ := textS_got14 he
    obtain ⟨_, g5⟩ := hg g1
    rw [hnil, List.append_nil] at g2
    generalize tx14 (textS s 65535).2 = a at *
    have hb : opB14 ⟨kd, a, ⟨#[]⟩, 0, 0⟩ = bs := by
      show le kd.toNat 1 ++ (sig14 kd.toNat).flatMap _ = bs
      rw [hs]
      show _ = (⟨bs, 0⟩ : St).bs
      rw [g5, g2]
      simp [part14]
    have hn := len_a14 (o := ⟨kd, a, ⟨#[]⟩, 0, 0⟩) hs
    rw [hb] at hn
    dsimp only at hn
    have hf : frm_14 ⟨kd, a, ⟨#[]⟩, 0, 0⟩ = true := (frm_a14 (o := ⟨kd, a, ⟨#[]⟩, 0, 0⟩) hs hk).trans (decide_eq_true ⟨rfl, rfl, rfl⟩)
    refine ⟨chk_of14 hf hb hlen, hb, ?_, ?_⟩
    · show a.size ≤ 65535; omega
    · exact Nat.zero_le _
  · rw [hs, hk, if_pos rfl] at hnil he ⊢
    simp only [fold14, List.foldl_nil, zero14] at hnil he ⊢
    obtain ⟨_, g5⟩ := hg he
    have hb : opB14 ⟨kd, ⟨#[]⟩, ⟨#[]⟩, 0, 0⟩ = bs := by
      show le kd.toNat 1 ++ (sig14 kd.toNat).flatMap _ = bs
      rw [hs]
      show _ = (⟨bs, 0⟩ : St).bs
      rw [g5, hnil]
      simp
    have hf : frm_14 ⟨kd, ⟨#[]⟩, ⟨#[]⟩, 0, 0⟩ = true := (frm_014 (o := ⟨kd, ⟨#[]⟩, ⟨#[]⟩, 0, 0⟩) hs hk).trans (decide_eq_true ⟨rfl, rfl, rfl, rfl⟩)
    refine ⟨chk_of14 hf hb hlen, hb, ?_, ?_⟩
    · exact Nat.zero_le _
    · exact Nat.zero_le _
  · rw [hs, hk, if_pos rfl] at hnil he ⊢
    have f0 : fold14 [110, 114] (s, zero14 kd) = (stp14 (stp14 s 110) 114, opp14 (stp14 s 110) (opp14 s (zero14 kd) 110) 114) := rfl
    rw [f0] at hnil he ⊢
    clear f0
    dsimp only at hnil he ⊢
    have two : ∀ (t : St) (c : UInt8), ¬ (c = 97 ∨ c = 98) → (stp14 t c).e = 0 → snd14 (numS t 1).2 (numS t 1).2 c = true ∧ stp14 t c = (numS t 1).1 ∧ (numS t 1).1.e = 0 := by
      intro t c hc h0
      unfold stp14 at h0 ⊢
      rw [if_neg hc] at h0 ⊢
      by_cases hb : snd14 (numS t 1).2 (numS t 1).2 c = true
      · rw [if_pos hb] at h0 ⊢
        exact ⟨hb, rfl, h0⟩
      · rw [if_neg hb] at h0
        exact absurd h0 (failS_ne14 (by decide))
    obtain ⟨b2, e2, z2⟩ := two _ _ (by decide) he
    obtain ⟨z1, g2⟩ := numS_got14 z2
    obtain ⟨b1, e1, z1'⟩ := two _ _ (by decide) z1
    obtain ⟨z0, g1⟩ := numS_got14 z1'
    obtain ⟨_, g5⟩ := hg z0
    rw [e2] at hnil
    rw [hnil, List.append_nil] at g2
    rw [← e1, g2] at g1
    have u1 : (UInt8.ofNat (numS s 1).2).toNat = (numS s 1).2 := num_u814 s
    have u2 : (UInt8.ofNat (numS (stp14 s 110) 1).2).toNat = (numS (stp14 s 110) 1).2 := num_u814 _
    have ho : opp14 (stp14 s 110) (opp14 s (zero14 kd) 110) 114 = ⟨kd, ⟨#[]⟩, ⟨#[]⟩, UInt8.ofNat (numS s 1).2, UInt8.ofNat (numS (stp14 s 110) 1).2⟩ := by
      unfold opp14
      rw [if_neg (by decide), if_neg (by decide), if_neg (by decide), if_neg (by decide), if_neg (by decide), if_pos rfl]
      rfl
    rw [ho]
    clear ho e1 e2 z0 z1 z2 z1' he hnil two hg
    generalize (numS s 1).2 = x at *
    generalize (numS (stp14 s 110) 1).2 = y at *
    generalize UInt8.ofNat x = nd at *
    generalize UInt8.ofNat y = rl at *
    subst u1 u2
    have hx : nd.toNat < 7 := by
      unfold snd14 at b1
      rw [if_pos rfl] at b1
      exact of_decide_eq_true b1
    have hy : 1 ≤ rl.toNat ∧ rl.toNat ≤ 3 := by
      unfold snd14 at b2
      rw [if_neg (by decide), if_pos rfl] at b2
      simpa using b2
    have hb : opB14 ⟨kd, ⟨#[]⟩, ⟨#[]⟩, nd, rl⟩ = bs := by
      show le kd.toNat 1 ++ (sig14 kd.toNat).flatMap _ = bs
      rw [hs]
      show _ = (⟨bs, 0⟩ : St).bs
      rw [g5, g1]
      simp [part14]
    have hf : frm_14 ⟨kd, ⟨#[]⟩, ⟨#[]⟩, nd, rl⟩ = true := (frm_nr14 (o := ⟨kd, ⟨#[]⟩, ⟨#[]⟩, nd, rl⟩) hs hk).trans (decide_eq_true ⟨rfl, rfl, hx, hy⟩)
    refine ⟨chk_of14 hf hb hlen, hb, ?_, ?_⟩
    · exact Nat.zero_le _
    · exact Nat.zero_le _
  · rw [hs, hk] at he
    simp only [fold14, List.foldl_nil] at he
    exact absurd he (failS_ne14 (by decide))
end Go.Proofs.Ytadecmjojnhlnaa

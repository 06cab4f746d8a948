/-
  The document's Read of any bytes tells what the code's tells.
  Conditions: at most 1000 bytes.
-/
import Derived.Test.YtacmjmfdhegojaaDoorOpRefR
namespace Go.Proofs.YtacmjmfdhegojaaDoor
open Go.RowKit

theorem tx_nil14 {l : List UInt8} (h : l ≠ []) : tx14 l ≠ ⟨#[]⟩ := fun e => h (by
  have := congrArg (fun s : ByteArray => s.data.toList) e
  simpa [tx14] using this)
theorem fin_is14 {st : St} (h : Ok st) (oo : O14) : (fin14 (tx14 st.bs) st.e oo).1 = (if endS st = 0 then oo else zero14 0) ∧ (fin14 (tx14 st.bs) st.e oo).2 = endS st := by
  unfold fin14
  rcases endS_ok14 h with ⟨h1, h2, h3⟩ | ⟨h1, h2, h3⟩ | ⟨h1, h3⟩
  · have e : tx14 [] = ⟨#[]⟩ := rfl
    rw [h3, if_pos h1, h2, e, if_pos rfl, if_pos rfl]; exact ⟨rfl, rfl⟩
  · rw [h3, if_pos h1, if_neg (tx_nil14 h2), if_neg (by decide)]; exact ⟨rfl, rfl⟩
  · rw [h3, if_neg h1, if_neg h1]; exact ⟨rfl, rfl⟩
theorem ok0_14 (r : List UInt8) : Ok ⟨r, 0⟩ := fun h => absurd rfl h
theorem gt14 (st : St) (hok : Ok st) (hl : st.bs.length ≤ 1000) : ∀ W, Calls Tryd.prog 34 #[.agg #[.string (tx14 st.bs), .int .i64 st.e], .int .i64 65535] W (Says14 (.tuple #[.agg #[.string (tx14 (textS st 65535).1.bs), .int .i64 (textS st 65535).1.e], .string (tx14 (textS st 65535).2)]) W) :=
  fun W => (gettext_calls st 65535 W hok (by omega)).mono fun _ _ ⟨he, ht⟩ => ⟨he, still14 ht⟩
theorem gn14 (st : St) (hok : Ok st) (hl : st.bs.length ≤ 1000) : ∀ W, Calls Tryd.prog 35 #[.agg #[.string (tx14 st.bs), .int .i64 st.e], .int .i64 1] W (Says14 (.tuple #[.agg #[.string (tx14 (numS st 1).1.bs), .int .i64 (numS st 1).1.e], .int .u64 (UInt8.ofNat (numS st 1).2).toNat]) W) := by
  intro W
  rw [num_u814]
  exact (get_calls st 1 1 W hok (by omega) rfl (by omega)).mono fun _ _ ⟨he, ht⟩ => ⟨he, still14 ht⟩
theorem fl14 (st : St) : ∀ W, Calls Tryd.prog 36 #[.agg #[.string (tx14 st.bs), .int .i64 st.e], .int .i64 4] W (Says14 (.agg #[.string (tx14 (failS st 4).bs), .int .i64 (failS st 4).e]) W) :=
  fun W => (reffail_calls st 4 W).mono fun _ _ ⟨he, ht⟩ => ⟨he, still14 ht⟩

set_option maxHeartbeats 1000000 in
theorem rread14_calls (bs : List UInt8) (w : World) (hl : bs.length ≤ 1000) :
    Calls Tryd.prog 13 #[.string (tx14 bs)] w (Says14 (.tuple #[(rdv14 bs).v, .int .i64 (rde14 bs)]) w) := by
  by_cases hlen : 64 < bs.length
  · have e1 : rde14 bs = 3 := if_pos hlen
    have e2 : rdv14 bs = zero14 0 := by unfold rdv14; rw [e1, if_neg (by decide)]
    rw [e1, e2]
    exact rread14_long w (tx14 bs) (by rw [tx14_size]; exact hlen)
  match bs, hl, hlen with
  | [], _, _ =>
    have e1 : rde14 [] = 2 := by decide
    have e2 : rdv14 [] = zero14 0 := by unfold rdv14; rw [e1, if_neg (by decide)]
    rw [e1, e2]
    exact rread14_empty w
  | kd :: r, hl, hlen =>
    have hsz : (tx14 (kd :: r)).size = r.length + 1 := by rw [tx14_size]; rfl
    have h0 : 0 < (tx14 (kd :: r)).size := by omega
    have hk : (tx14 (kd :: r))[0]'h0 = kd := rfl
    have hex : (tx14 (kd :: r)).extract 1 (tx14 (kd :: r)).size = tx14 r := by rw [extract_drop, tx14_list]; rfl
    have hn : numS ⟨kd :: r, 0⟩ 1 = (⟨r, 0⟩, kd.toNat) := by
      have := numS_put14 kd.toNat 1 r
      rw [le_one14, u8_one14] at this
      exact this
    have hle : (tx14 (kd :: r)).size ≤ 64 := by simp only [List.length_cons] at hlen; omega
    have hrl : r.length ≤ 1000 := by simp only [List.length_cons] at hl; omega
    have hE : rde14 (kd :: r) = endS (rdo14 (kd :: r)).1 := if_neg hlen
    have hV : rdv14 (kd :: r) = if rde14 (kd :: r) = 0 then (rdo14 (kd :: r)).2 else zero14 0 := rfl
    have hR : rdo14 (kd :: r) = fold14 (sig14 kd.toNat) (if know14 kd.toNat = true then ⟨r, 0⟩ else failS ⟨r, 0⟩ 4, zero14 kd) := by
      unfold rdo14 hd14
      rw [hn]
      dsimp only
      rw [u8_back14]
    rcases cls14 kd.toNat with ⟨hp, hs, hkn⟩ | ⟨hp, hs, hkn⟩ | ⟨hp, hs, hkn⟩ | ⟨hp, hs, hkn⟩ | ⟨hp, hs, hkn⟩
    · rw [hs, hkn, if_pos rfl] at hR
      have o1 := (ok0_14 r).text 65535
      have o2 := o1.text 65535
      have l1 := textS_left ⟨r, 0⟩ 65535
      have hR2 : rdo14 (kd :: r) = ((textS (textS ⟨r, 0⟩ 65535).1 65535).1, ⟨kd, tx14 (textS ⟨r, 0⟩ 65535).2, tx14 (textS (textS ⟨r, 0⟩ 65535).1 65535).2, 0, 0⟩) := by
        rw [hR]
        simp only [fold14, List.foldl_cons, List.foldl_nil, stp14, opp14, true_or, or_true, if_true, zero14]
        rw [if_neg (by decide)]
      have hf := fin_is14 o2 ⟨kd, tx14 (textS ⟨r, 0⟩ 65535).2, tx14 (textS (textS ⟨r, 0⟩ 65535).1 65535).2, 0, 0⟩
      rw [hR2] at hE hV
      refine rread14_ab (tx14 (kd :: r)) h0 w hle (by rw [hk]; exact hp) (tx14 r) hex _ _ _ _ _ _ (gt14 ⟨r, 0⟩ (ok0_14 r) hrl) (gt14 _ o1 (Nat.le_trans l1 hrl)) ⟨kd, tx14 (textS ⟨r, 0⟩ 65535).2, tx14 (textS (textS ⟨r, 0⟩ 65535).1 65535).2, 0, 0⟩ _ _ ?_ ?_ rfl
      · show rdv14 (kd :: r) = _
        rw [hf.1, hV, hE]
      · show rde14 (kd :: r) = _
        rw [hf.2, hE]
    · rw [hs, hkn, if_pos rfl] at hR
      have o1 := (ok0_14 r).text 65535
      have hR2 : rdo14 (kd :: r) = ((textS ⟨r, 0⟩ 65535).1, ⟨kd, tx14 (textS ⟨r, 0⟩ 65535).2, ⟨#[]⟩, 0, 0⟩) := by
        rw [hR]
        simp only [fold14, List.foldl_cons, List.foldl_nil, stp14, opp14, true_or, if_true, zero14]
      have hf := fin_is14 o1 ⟨kd, tx14 (textS ⟨r, 0⟩ 65535).2, ⟨#[]⟩, 0, 0⟩
      rw [hR2] at hE hV
      refine rread14_a (tx14 (kd :: r)) h0 w hle (by rw [hk]; exact hp) (tx14 r) hex _ _ _ (gt14 ⟨r, 0⟩ (ok0_14 r) hrl) ⟨kd, tx14 (textS ⟨r, 0⟩ 65535).2, ⟨#[]⟩, 0, 0⟩ _ _ ?_ ?_ rfl
      · show rdv14 (kd :: r) = _
        rw [hf.1, hV, hE]
      · show rde14 (kd :: r) = _
        rw [hf.2, hE]
    · rw [hs, hkn, if_pos rfl] at hR
      have hR2 : rdo14 (kd :: r) = (⟨r, 0⟩, ⟨kd, ⟨#[]⟩, ⟨#[]⟩, 0, 0⟩) := by rw [hR]; rfl
      have hf := fin_is14 (ok0_14 r) ⟨kd, ⟨#[]⟩, ⟨#[]⟩, 0, 0⟩
      rw [hR2] at hE hV
      refine rread14_0 (tx14 (kd :: r)) h0 w hle (by rw [hk]; exact hp) (tx14 r) hex ⟨kd, ⟨#[]⟩, ⟨#[]⟩, 0, 0⟩ _ _ ?_ ?_ rfl
      · show rdv14 (kd :: r) = _
        exact (by rw [hV, hE] : rdv14 (kd :: r) = _).trans hf.1.symm
      · show rde14 (kd :: r) = _
        exact hE.trans hf.2.symm
    · rw [hs, hkn, if_pos rfl] at hR
      have hR1 : rdo14 (kd :: r) = (stp14 (stp14 ⟨r, 0⟩ 110) 114, opp14 (stp14 ⟨r, 0⟩ 110) (opp14 ⟨r, 0⟩ (zero14 kd) 110) 114) := hR
      have o1 := (ok0_14 r).num 1
      have l1 := numS_left ⟨r, 0⟩ 1
      have ux : (UInt8.ofNat (numS ⟨r, 0⟩ 1).2).toNat = (numS ⟨r, 0⟩ 1).2 := num_u814 _
      have h1 : (6 < (numS ⟨r, 0⟩ 1).2 ∧ stp14 ⟨r, 0⟩ 110 = failS (numS ⟨r, 0⟩ 1).1 4) ∨ ((numS ⟨r, 0⟩ 1).2 ≤ 6 ∧ stp14 ⟨r, 0⟩ 110 = (numS ⟨r, 0⟩ 1).1) := by
        unfold stp14 snd14
        rw [if_neg (by decide), if_pos rfl]
        by_cases hx : (numS ⟨r, 0⟩ 1).2 < 7
        · rw [decide_eq_true hx, if_pos rfl]; exact .inr ⟨by omega, rfl⟩
        · rw [decide_eq_false hx, if_neg (by decide)]; exact .inl ⟨by omega, rfl⟩
      have om : Ok (stp14 ⟨r, 0⟩ 110) := by
        rcases h1 with ⟨_, e⟩ | ⟨_, e⟩
        · rw [e]; exact o1.fail 4
        · rw [e]; exact o1
      have lm := stp14_left ⟨r, 0⟩ 110
      have p1 : opp14 ⟨r, 0⟩ (zero14 kd) 110 = ⟨kd, ⟨#[]⟩, ⟨#[]⟩, UInt8.ofNat (numS ⟨r, 0⟩ 1).2, 0⟩ := by
        unfold opp14
        rw [if_neg (by decide), if_neg (by decide), if_pos rfl]
        rfl
      rw [p1] at hR1
      generalize stp14 ⟨r, 0⟩ 110 = sm at *
      have o3 := om.num 1
      have l3 := numS_left sm 1
      have uy : (UInt8.ofNat (numS sm 1).2).toNat = (numS sm 1).2 := num_u814 _
      have hk3 : sm.e ≠ 0 → (numS sm 1).1.e ≠ 0 := fun h => by rw [numS_keep14 1 h]; exact h
      have h2 : (sm.e = 0 ∧ (numS sm 1).1.e = 0 ∧ ((numS sm 1).2 < 1 ∨ 3 < (numS sm 1).2) ∧ stp14 sm 114 = failS (numS sm 1).1 4) ∨ (¬ (sm.e = 0 ∧ (numS sm 1).1.e = 0 ∧ ((numS sm 1).2 < 1 ∨ 3 < (numS sm 1).2)) ∧ stp14 sm 114 = (numS sm 1).1) := by
        have hsn : snd14 (numS sm 1).2 (numS sm 1).2 114 = (decide (1 ≤ (numS sm 1).2) && decide ((numS sm 1).2 ≤ 3)) := by unfold snd14; rw [if_neg (by decide), if_pos rfl]
        unfold stp14
        rw [if_neg (by decide), hsn]
        by_cases hy : 1 ≤ (numS sm 1).2 ∧ (numS sm 1).2 ≤ 3
        · rw [decide_eq_true hy.1, decide_eq_true hy.2, if_pos (by decide)]
          exact .inr ⟨fun h => by omega, rfl⟩
        · have hb : (decide (1 ≤ (numS sm 1).2) && decide ((numS sm 1).2 ≤ 3)) = false := by
            by_cases h1 : 1 ≤ (numS sm 1).2
            · have h2 : ¬ (numS sm 1).2 ≤ 3 := fun h => hy ⟨h1, h⟩
              rw [decide_eq_false h2, Bool.and_false]
            · rw [decide_eq_false h1, Bool.false_and]
          rw [hb, if_neg (by decide)]
          by_cases he : (numS sm 1).1.e = 0
          · have hm : sm.e = 0 := Classical.byContradiction fun h => hk3 h he
            exact .inl ⟨hm, he, by omega, rfl⟩
          · exact .inr ⟨fun h => he h.2.1, failS_e14 he⟩
      have oz : Ok (stp14 sm 114) := by
        rcases h2 with ⟨_, _, _, e⟩ | ⟨_, e⟩
        · rw [e]; exact o3.fail 4
        · rw [e]; exact o3
      have p2 : opp14 sm ⟨kd, ⟨#[]⟩, ⟨#[]⟩, UInt8.ofNat (numS ⟨r, 0⟩ 1).2, 0⟩ 114 = ⟨kd, ⟨#[]⟩, ⟨#[]⟩, UInt8.ofNat (numS ⟨r, 0⟩ 1).2, UInt8.ofNat (numS sm 1).2⟩ := by
        unfold opp14
        rw [if_neg (by decide), if_neg (by decide), if_neg (by decide)]
      rw [p2] at hR1
      generalize stp14 sm 114 = sz at *
      have hf := fin_is14 oz ⟨kd, ⟨#[]⟩, ⟨#[]⟩, UInt8.ofNat (numS ⟨r, 0⟩ 1).2, UInt8.ofNat (numS sm 1).2⟩
      rw [hR1] at hE hV
      have hlm : sm.bs.length ≤ 1000 := Nat.le_trans lm hrl
      refine rread14_nr (tx14 (kd :: r)) h0 w hle (by rw [hk]; exact hp) (tx14 r) hex (tx14 (numS ⟨r, 0⟩ 1).1.bs) (tx14 (failS (numS ⟨r, 0⟩ 1).1 4).bs) (tx14 sm.bs) (tx14 (numS sm 1).1.bs) (tx14 (failS (numS sm 1).1 4).bs) (tx14 sz.bs)
        (numS ⟨r, 0⟩ 1).1.e (failS (numS ⟨r, 0⟩ 1).1 4).e sm.e (numS sm 1).1.e (failS (numS sm 1).1 4).e sz.e (UInt8.ofNat (numS ⟨r, 0⟩ 1).2) (UInt8.ofNat (numS sm 1).2)
        (gn14 ⟨r, 0⟩ (ok0_14 r) hrl) (fl14 _) ?_ (gn14 sm om hlm) (fl14 _) hk3 (failS_ne14 (by decide)) ?_ ⟨kd, ⟨#[]⟩, ⟨#[]⟩, UInt8.ofNat (numS ⟨r, 0⟩ 1).2, UInt8.ofNat (numS sm 1).2⟩ _ _ ?_ ?_ rfl
      · rw [ux]
        rcases h1 with ⟨a, e⟩ | ⟨a, e⟩
        · exact .inl ⟨a, by rw [e], by rw [e]⟩
        · exact .inr ⟨a, by rw [e], by rw [e]⟩
      · rw [uy]
        rcases h2 with ⟨a, b, c, e⟩ | ⟨a, e⟩
        · exact .inl ⟨a, b, c, by rw [e], by rw [e]⟩
        · exact .inr ⟨a, by rw [e], by rw [e]⟩
      · show rdv14 (kd :: r) = _
        rw [hf.1, hV, hE]
      · show rde14 (kd :: r) = _
        rw [hf.2, hE]
    · rw [hs, hkn, if_neg (by decide)] at hR
      have e1 : rde14 (kd :: r) = 4 := by rw [hE, hR]; rfl
      have e2 : rdv14 (kd :: r) = zero14 0 := by rw [hV, e1, if_neg (by decide)]
      rw [e1, e2]
      exact rread14_no (tx14 (kd :: r)) h0 w hle (by rw [hk]; exact hp)
end Go.Proofs.YtacmjmfdhegojaaDoor

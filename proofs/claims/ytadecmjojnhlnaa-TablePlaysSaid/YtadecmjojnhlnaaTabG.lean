/-
  Get of a reply, with where its texts lie: in memory of their own.
  Conditions: bytes of at most 1000.
-/
import Derived.Test.YtadecmjojnhlnaaOpGet
namespace Go.Proofs.Ytadecmjojnhlnaa
open Go.RowKit

/-- What Get tells, and where. -/
def Got15 (w : World) (bs : List UInt8) (e : Ending) (w' : World) : Prop :=
  (gre14 bs ≠ 0 ∧ e = .returned (.tuple #[.agg #[.int .i64 0, .slice none 0 0], .int .i64 (gre14 bs)]) ∧ Below w.heap.size w w') ∨
  (gre14 bs = 0 ∧ ∃ A c, e = .returned (.tuple #[.agg #[.int .i64 (gk14 bs), .slice A (gss14 bs).length c], .int .i64 0]) ∧ RdS w' A (gss14 bs) ∧ (gss14 bs).length ≤ c ∧ c ≤ 9223372036854775807 ∧ (∀ a : Addr, A = some a → w.heap.size ≤ a.block) ∧ (A = none → c = 0) ∧ Below w.heap.size w w')

set_option maxRecDepth 100000 in
set_option maxHeartbeats 1000000 in
theorem Get15_calls (v : Value) (bs : List UInt8) (w : World) (hv : Rd w v bs) (hm : bs.length ≤ 1000) :
    Calls Try.prog 42 #[v] w (Got15 w bs) := by
  obtain ⟨A, c, rfl⟩ := hv.shape
  have hz0 : RpAt (w.alloc (.cells #[.int .i64 0, .slice none 0 0] 34)) w.heap.size 0 (.slice none 0 0) := heap_alloc_new w _
  have hb0 := alloc14 (Below.refl _ w) (.cells #[.int .i64 0, .slice none 0 0] 34)
  have HOF : Hid (Calls Try.prog 17 #[.slice A bs.length c] (w.alloc (.cells #[.int .i64 0, .slice none 0 0] 34)) (Made (w.alloc (.cells #[.int .i64 0, .slice none 0 0] 34)) bs)) :=
    of_calls _ bs _ (hv.still (turns14 hb0)) (by omega)
  have hsz : (w.alloc (.cells #[.int .i64 0, .slice none 0 0] 34)).heap.size = w.heap.size + 1 := by simp
  have HSZ := Lib.hid hsz
  have HZ := Lib.hid hz0
  have HB0 := Lib.hid hb0
  obtain ⟨k, hk⟩ : ∃ k, k = gk14 bs := ⟨_, rfl⟩
  have hk256 : k < 256 := by rw [hk]; exact numS_lt _ 1
  have HBY : Hid (∀ B W, Rdr W B ⟨bs, 0⟩ → Calls Try.prog 52 #[.pointer (some ⟨B, 0, none⟩)] W (Numb .u8 W B (numS ⟨bs, 0⟩ 1).1 k)) := by
    rw [hk]; exact fun B W h => rbyte_calls B ⟨bs, 0⟩ W h (by show bs.length ≤ _; omega)
  have HS2 : Hid (gs2_14 bs = if 18 < k then failS (numS ⟨bs, 0⟩ 1).1 4 else (numS ⟨bs, 0⟩ 1).1) := by rw [hk]; rfl
  have HRW : Hid (∀ B W, Rdr W B (gs2_14 bs) → Calls Try.prog 53 #[.pointer (some ⟨B, 0, none⟩), .int .i64 400, .int .i64 400] W (Rows6 W B (rowS (gs2_14 bs) 400 400).1 (gss14 bs))) := fun B W h => rrow6_calls B (gs2_14 bs) 400 400 W h (by have := gs2_left14 bs; omega)
  have HS4 : Hid (gs4_14 bs = if k ≠ 0 ∧ gss14 bs ≠ [] then failS (rowS (gs2_14 bs) 400 400).1 4 else (rowS (gs2_14 bs) 400 400).1) := by rw [hk]; rfl
  have HEN : Hid (∀ B W, Rdr W B (gs4_14 bs) → Calls Try.prog 19 #[.pointer (some ⟨B, 0, none⟩)] W fun e w' => e = .returned (.int .i64 (gre14 bs)) ∧ W = w') := fun B W h => rend_calls B (gs4_14 bs) W h
  have HFL := Lib.hid (fun B st W (h : Rdr W B st) => fail_calls B st 4 W h)
  have HOKG : Hid (gre14 bs = 0 → ∀ A c W, RdS W A (gss14 bs) → (gss14 bs).length ≤ c → c ≤ 9223372036854775807 → (∀ a : Addr, A = some a → w.heap.size ≤ a.block) → (A = none → c = 0) → Below w.heap.size w W → Got15 w bs (.returned (.tuple #[.agg #[.int .i64 (gk14 bs), .slice A (gss14 bs).length c], .int .i64 0])) W) := fun h A c W h1 h2 h3 h5 h6 h4 => .inr ⟨h, A, c, rfl, h1, h2, h3, h5, h6, h4⟩
  have HBAD : Hid (gre14 bs ≠ 0 → ∀ W, Below w.heap.size w W → Got15 w bs (.returned (.tuple #[.agg #[.int .i64 0, .slice none 0 0], .int .i64 (gre14 bs)])) W) := fun h W h1 => .inl ⟨h, rfl, h1⟩
  generalize Got15 w bs = G at *
  rw [← hk] at HOKG
  clear hz0 hb0 hsz hk hv hm
  generalize gs4_14 bs = s4 at *
  generalize (rowS (gs2_14 bs) 400 400).1 = s3 at *
  generalize gs2_14 bs = s2 at *
  generalize gss14 bs = ss at *
  generalize gre14 bs = re at *
  generalize (numS ⟨bs, 0⟩ 1).1 = s1 at *
  have hw64 : wrap64 (k : Int) = k := IntWalk.wrap64_in _ (by omega)
  generalize bs.length = bl at *
  go_enter Try.func42, Try.ntmps42
  go_wp2_with fail
  with_reducible refine HOF.out.mono ?_
  rintro e w1 ⟨B, hB, rfl, hr, ht⟩
  have hBn : w.heap.size < B := by rw [HSZ.out] at hB; omega
  have HR1 := Lib.hid hr
  have HZ1 := Lib.hid (HZ.out.turns ht (fun f => f))
  have HB1 := Lib.hid (next14 HB0.out (still14 ht))
  clear hB hr ht HOF HZ HB0 HSZ
  go_wp2_with fail
  with_reducible refine (HBY.out B w1 HR1.out).mono ?_
  rintro e w2 ⟨rfl, hd⟩
  have HD2 := Lib.hid hd.1
  have HZ2 := Lib.hid (HZ1.out.turns hd.2 (by omega))
  have HB2 := Lib.hid (HB1.out.trans (hd.2.below_at HB1.out.size (by rintro i e; omega)))
  have hPn : w.heap.size < w2.heap.size := HZ2.out.lt
  have hBP : B < w2.heap.size := HD2.out.lt
  clear hd HBY HR1 HZ1 HB1
  have hz := alloc14 (Below.refl _ w2) (.cells #[.int .i64 (k : Int), .slice none 0 0] 34)
  have HA : Hid (Gr14 w B w2.heap.size s1 k (.slice none 0 0) (w2.alloc (.cells #[.int .i64 (k : Int), .slice none 0 0] 34))) := ⟨HD2.out.still (turns14 hz), heap_alloc_new w2 _, HZ2.out.below hz, next14 HB2.out hz⟩
  clear hz HZ2 HB2 HD2
  by_cases h18 : 18 < k
  case pos =>
    have hh : s2 = failS s1 4 := by rw [HS2.out, if_pos h18]
    have d18 : decide ((k : Int) > 18) = true := by simp; omega
    clear h18
    go_wp2_with fail
    with_reducible refine (HFL.out B s1 _ HA.out.r).mono ?_
    rintro e W3 ⟨rfl, hd⟩
    have HA3 : Hid (Gr14 w B w2.heap.size s2 k (.slice none 0 0) W3) := by rw [hh]; exact HA.out.did hBn (by omega) hd
    clear hd HA hh HS2
    go_wp2_with fail
    generalize w2.heap.size = P at *
    with_reducible refine (HRW.out B _ HA3.out.r).mono ?_
    rintro e w4 ⟨A4, c4, rfl, ho4, hf4, hd4⟩
    have hBP' : B ≠ P := by omega
    have hlt3 : P < W3.heap.size := HA3.out.p.lt
    have hrs : RdS w4 A4 ss := rds_of_own ho4
    have hcap := cap_own14 ho4
    have hG4 := HA3.out.did hBn hBP' hd4
    have y0 := hG4.p.c0
    have y1 := hG4.p.c1
    have yf := hG4.p.fr
    have hG5 := hG4.set hPn hBP' (.slice A4 ss.length c4)
    have hrs5 : RdS (w4.setCell ⟨P, 1, none⟩ (.slice A4 ss.length c4)) A4 ss := hrs.turns ((Turns.refl (fun i => i = P) w4).setCell (p := ⟨P, 1, none⟩) (fun _ => rfl) _) (fun hne a ha he => by
      have := hf4 a.block (by rw [ha]; rfl)
      omega)
    have HNEW : Hid (∀ a : Addr, A4 = some a → P < a.block) := fun a ha => by
      have := hf4 a.block (by rw [ha]; rfl)
      omega
    have HG5 := Lib.hid hG5
    have HRS5 := Lib.hid hrs5
    have HCAP := Lib.hid hcap
    have HNIL : Hid (A4 = none → c4 = 0) := fun hA => by
      rcases ho4.2 with ⟨e, _⟩ | ⟨g, cap, cur, e, _⟩
      · injection e
      · injection e with e
        rw [hA] at e; cases e
    clear ho4 hf4 hd4 hrs hcap hG4 hG5 hrs5 HA3 hlt3 HRW
    obtain ⟨m, hm⟩ : ∃ m, m = ss.length := ⟨_, rfl⟩
    have HM := Lib.hid hm
    rw [← hm] at HG5 HRS5 HCAP HOKG ⊢
    clear hm
    obtain ⟨tA, tm, tc, htd, htm⟩ : ∃ tA tm tc, (∀ W, Calls Try.prog 26 #[.agg #[.int .i64 k, .slice A4 m c4]] W (Says14 (.slice tA tm tc) W)) ∧ tm = (if k = 0 then m else 0) := by
      by_cases h0 : k = 0
      · refine ⟨A4, m, c4, fun W => ?_, by rw [if_pos h0]⟩
        have := told14_calls k A4 m c4 W
        rwa [if_pos (by omega)] at this
      · refine ⟨none, 0, 0, fun W => ?_, by rw [if_neg h0]⟩
        have := told14_calls k A4 m c4 W
        rwa [if_neg (by omega)] at this
    have HTD := Lib.hid htd
    obtain ⟨b6, hb6⟩ : ∃ b6, b6 = decide (tm < m) := ⟨_, rfl⟩
    have hs4 : s4 = if b6 = true then failS s3 4 else s3 := by
      rw [HS4.out]
      by_cases h0 : k = 0
      · have : b6 = false := by rw [hb6, htm, if_pos h0]; simp
        rw [if_neg (fun h => h.1 h0), this]; rfl
      · by_cases hn : ss = []
        · have : b6 = false := by rw [hb6, htm, if_neg h0, HM.out, hn]; rfl
          rw [if_neg (fun h => h.2 hn), this]; rfl
        · have : b6 = true := by
            have := List.length_pos_iff.2 hn
            have hm := HM.out
            rw [hb6, htm, if_neg h0]
            simp
            omega
          rw [if_pos ⟨h0, hn⟩, this]; rfl
    have HH4 := Lib.hid hs4
    have HB6 : Hid (decide (tm < m) = b6) := hb6.symm
    clear htd htm hb6 hs4 HS4
    go_wp2
    generalize w4.setCell ⟨P, 1, none⟩ (.slice A4 m c4) = w5 at *
    have LT : P < w5.heap.size := HG5.out.p.lt
    clear y0 y1 yf
    refine wp_region_inv (by kernel_rfl) (fun W => Below w5.heap.size w5 W) (fun j v _ => YGt14 P k A4 m c4 tA tm tc b6 j v) ?F ?hF (by kernel_rfl) (by kernel_rfl) (drew14 (Below.refl _ _)) ?step ?fin
    case hF =>
      intro x
      simp only [List.map_cons, List.map_nil, putL, Act.put, List.setIfInBounds_toArray, List.set_cons_zero, List.set_cons_succ, Nat.zero_add, Nat.reduceAdd]
      exact rfl
    case step =>
      refine ⟨?_, ?_, ?_, ?_, ?_, ?_, ?_, trivial⟩
      all_goals intro x W hW hdep K hK
      · clear hdep
        go_simp
        exact hK _ _ rfl hW (fun _ _ h => h)
      · have h0 : x 0 = _ := hdep 0 rfl
        have q := HG5.out.p.below hW
        have k0 := q.c0
        have k1 := q.c1
        clear q
        clear hdep
        simp only [h0] at hK
        go_simp
        exact hK _ _ rfl hW (fun _ _ h => h)
      · have h1 : x 1 = _ := hdep 1 rfl
        clear hdep
        simp only [h1] at hK
        go_simp
        exact hK _ _ rfl hW (fun _ _ h => h)
      · have q := HG5.out.p.below hW
        have k0 := q.c0
        have k1 := q.c1
        clear q
        clear hdep
        go_simp
        exact hK _ _ rfl hW (fun _ _ h => h)
      · have h3 : x 3 = _ := hdep 3 rfl
        clear hdep
        simp only [h3] at hK
        go_simp
        refine (HTD.out W).mono ?_
        rintro e W' ⟨rfl, hb⟩
        exact hK _ _ rfl (next14 hW hb) (fun _ _ h => h)
      · have h4 : x 4 = _ := hdep 4 rfl
        clear hdep
        simp only [h4] at hK
        go_simp
        exact hK _ _ rfl hW (fun _ _ h => h)
      · have h2 : x 2 = _ := hdep 2 rfl
        have h5 : x 5 = _ := hdep 5 rfl
        have hb6 := HB6.out
        clear hdep
        simp only [h2, h5] at hK
        go_simp
        exact hK _ _ rfl hW (fun _ _ h => h)
    case fin =>
      intro x W hW hY
      have h6 : x 6 = .bool b6 := hY 6 (by decide)
      have hHG := HG5.out.below hW
      have hHRS := HRS5.out.later14 hW
      have HG6 := Lib.hid hHG
      have HRS6 := Lib.hid hHRS
      clear hY hHG hHRS HG5 HRS5 hW
      rw [h6]
      cases b6
      case' false =>
        have hh : s4 = s3 := HH4.out
        go_wp2_with fail
        have HG7 := HG6
        rw [← hh] at HG7
        have HRS7 := HRS6
        clear HG6 HRS6 hh HH4
        generalize hWW : W = W7 at *
        clear hWW
      case' true =>
        have hh : s4 = failS s3 4 := HH4.out
        go_wp2_with fail
        with_reducible refine (HFL.out B s3 _ HG6.out.r).mono ?_
        rintro e W7 ⟨rfl, hd⟩
        have HG7 : Hid (Gr14 w B P s4 k (.slice A4 m c4) W7) := by rw [hh]; exact HG6.out.did hBn hBP' hd
        have HRS7 : Hid (RdS W7 A4 ss) := HRS6.out.turns hd.2 (fun hne a ha he => by have := HNEW.out a ha; omega)
        clear hd HG6 HRS6 hh HH4
        go_wp2_with fail
      all_goals
        with_reducible refine (HEN.out B _ HG7.out.r).mono ?_
        rintro e w8 ⟨rfl, rfl⟩
        have x0 := HG7.out.z.c0
        have x1 := HG7.out.z.c1
        have xf := HG7.out.z.fr
        have y0 := HG7.out.p.c0
        have y1 := HG7.out.p.c1
        by_cases hre : re = 0
        · subst hre
          have HRF := Lib.hid (HRS7.out.turns (((Turns.refl (fun i => i = w.heap.size) W7).setCell (p := ⟨w.heap.size, 0, none⟩) (fun _ => rfl) (.int .i64 (k : Int))).setCell (p := ⟨w.heap.size, 1, none⟩) (fun _ => rfl) (.slice A4 m c4)) (fun hne a ha he => by have := HNEW.out a ha; omega))
          go_wp2
          exact bodyPost_ret (results_two14 Try.results42 _ _ w.heap.size _ _ (0, 0) _ rfl (HG7.out.z.setAll k (.slice A4 m c4)) Try.underlying34 rfl sizeRp14) rfl
            (HOKG.out (by first | rfl | trivial) A4 c4 _ HRF.out HCAP.out.1 HCAP.out.2 (fun a ha => by have := HNEW.out a ha; omega) HNIL.out ((HG7.out.b.setCell (Nat.le_refl _) _).setCell (Nat.le_refl _) _))
        · have hd : (re != 0) = true := by simpa using hre
          have HRE := Lib.hid hre
          clear hre
          go_wp2
          exact bodyPost_ret (results_two14 Try.results42 _ _ w.heap.size _ _ (0, 0) _ rfl (HG7.out.z.setAll 0 (.slice none 0 0)) Try.underlying34 rfl sizeRp14) rfl
            (HBAD.out HRE.out _ ((HG7.out.b.setCell (Nat.le_refl _) _).setCell (Nat.le_refl _) _))
  case neg =>
    have hh : s2 = s1 := by rw [HS2.out, if_neg h18]
    have d18 : decide ((k : Int) > 18) = false := by simp; omega
    clear h18
    go_wp2_with fail
    have HA3 := HA
    rw [← hh] at HA3
    clear HA hh HS2
    generalize w2.alloc (.cells #[.int .i64 (k : Int), .slice none 0 0] 34) = W3 at *
    generalize w2.heap.size = P at *
    with_reducible refine (HRW.out B _ HA3.out.r).mono ?_
    rintro e w4 ⟨A4, c4, rfl, ho4, hf4, hd4⟩
    have hBP' : B ≠ P := by omega
    have hlt3 : P < W3.heap.size := HA3.out.p.lt
    have hrs : RdS w4 A4 ss := rds_of_own ho4
    have hcap := cap_own14 ho4
    have hG4 := HA3.out.did hBn hBP' hd4
    have y0 := hG4.p.c0
    have y1 := hG4.p.c1
    have yf := hG4.p.fr
    have hG5 := hG4.set hPn hBP' (.slice A4 ss.length c4)
    have hrs5 : RdS (w4.setCell ⟨P, 1, none⟩ (.slice A4 ss.length c4)) A4 ss := hrs.turns ((Turns.refl (fun i => i = P) w4).setCell (p := ⟨P, 1, none⟩) (fun _ => rfl) _) (fun hne a ha he => by
      have := hf4 a.block (by rw [ha]; rfl)
      omega)
    have HNEW : Hid (∀ a : Addr, A4 = some a → P < a.block) := fun a ha => by
      have := hf4 a.block (by rw [ha]; rfl)
      omega
    have HG5 := Lib.hid hG5
    have HRS5 := Lib.hid hrs5
    have HCAP := Lib.hid hcap
    have HNIL : Hid (A4 = none → c4 = 0) := fun hA => by
      rcases ho4.2 with ⟨e, _⟩ | ⟨g, cap, cur, e, _⟩
      · injection e
      · injection e with e
        rw [hA] at e; cases e
    clear ho4 hf4 hd4 hrs hcap hG4 hG5 hrs5 HA3 hlt3 HRW
    obtain ⟨m, hm⟩ : ∃ m, m = ss.length := ⟨_, rfl⟩
    have HM := Lib.hid hm
    rw [← hm] at HG5 HRS5 HCAP HOKG ⊢
    clear hm
    obtain ⟨tA, tm, tc, htd, htm⟩ : ∃ tA tm tc, (∀ W, Calls Try.prog 26 #[.agg #[.int .i64 k, .slice A4 m c4]] W (Says14 (.slice tA tm tc) W)) ∧ tm = (if k = 0 then m else 0) := by
      by_cases h0 : k = 0
      · refine ⟨A4, m, c4, fun W => ?_, by rw [if_pos h0]⟩
        have := told14_calls k A4 m c4 W
        rwa [if_pos (by omega)] at this
      · refine ⟨none, 0, 0, fun W => ?_, by rw [if_neg h0]⟩
        have := told14_calls k A4 m c4 W
        rwa [if_neg (by omega)] at this
    have HTD := Lib.hid htd
    obtain ⟨b6, hb6⟩ : ∃ b6, b6 = decide (tm < m) := ⟨_, rfl⟩
    have hs4 : s4 = if b6 = true then failS s3 4 else s3 := by
      rw [HS4.out]
      by_cases h0 : k = 0
      · have : b6 = false := by rw [hb6, htm, if_pos h0]; simp
        rw [if_neg (fun h => h.1 h0), this]; rfl
      · by_cases hn : ss = []
        · have : b6 = false := by rw [hb6, htm, if_neg h0, HM.out, hn]; rfl
          rw [if_neg (fun h => h.2 hn), this]; rfl
        · have : b6 = true := by
            have := List.length_pos_iff.2 hn
            have hm := HM.out
            rw [hb6, htm, if_neg h0]
            simp
            omega
          rw [if_pos ⟨h0, hn⟩, this]; rfl
    have HH4 := Lib.hid hs4
    have HB6 : Hid (decide (tm < m) = b6) := hb6.symm
    clear htd htm hb6 hs4 HS4
    go_wp2
    generalize w4.setCell ⟨P, 1, none⟩ (.slice A4 m c4) = w5 at *
    have LT : P < w5.heap.size := HG5.out.p.lt
    clear y0 y1 yf
    refine wp_region_inv (by kernel_rfl) (fun W => Below w5.heap.size w5 W) (fun j v _ => YGt14 P k A4 m c4 tA tm tc b6 j v) ?F2 ?hF2 (by kernel_rfl) (by kernel_rfl) (drew14 (Below.refl _ _)) ?step2 ?fin2
    case hF2 =>
      intro x
      simp only [List.map_cons, List.map_nil, putL, Act.put, List.setIfInBounds_toArray, List.set_cons_zero, List.set_cons_succ, Nat.zero_add, Nat.reduceAdd]
      exact rfl
    case step2 =>
      refine ⟨?_, ?_, ?_, ?_, ?_, ?_, ?_, trivial⟩
      all_goals intro x W hW hdep K hK
      · clear hdep
        go_simp
        exact hK _ _ rfl hW (fun _ _ h => h)
      · have h0 : x 0 = _ := hdep 0 rfl
        have q := HG5.out.p.below hW
        have k0 := q.c0
        have k1 := q.c1
        clear q
        clear hdep
        simp only [h0] at hK
        go_simp
        exact hK _ _ rfl hW (fun _ _ h => h)
      · have h1 : x 1 = _ := hdep 1 rfl
        clear hdep
        simp only [h1] at hK
        go_simp
        exact hK _ _ rfl hW (fun _ _ h => h)
      · have q := HG5.out.p.below hW
        have k0 := q.c0
        have k1 := q.c1
        clear q
        clear hdep
        go_simp
        exact hK _ _ rfl hW (fun _ _ h => h)
      · have h3 : x 3 = _ := hdep 3 rfl
        clear hdep
        simp only [h3] at hK
        go_simp
        refine (HTD.out W).mono ?_
        rintro e W' ⟨rfl, hb⟩
        exact hK _ _ rfl (next14 hW hb) (fun _ _ h => h)
      · have h4 : x 4 = _ := hdep 4 rfl
        clear hdep
        simp only [h4] at hK
        go_simp
        exact hK _ _ rfl hW (fun _ _ h => h)
      · have h2 : x 2 = _ := hdep 2 rfl
        have h5 : x 5 = _ := hdep 5 rfl
        have hb6 := HB6.out
        clear hdep
        simp only [h2, h5] at hK
        go_simp
        exact hK _ _ rfl hW (fun _ _ h => h)
    case fin2 =>
      intro x W hW hY
      have h6 : x 6 = .bool b6 := hY 6 (by decide)
      have hHG := HG5.out.below hW
      have hHRS := HRS5.out.later14 hW
      have HG6 := Lib.hid hHG
      have HRS6 := Lib.hid hHRS
      clear hY hHG hHRS HG5 HRS5 hW
      rw [h6]
      cases b6
      case' false =>
        have hh : s4 = s3 := HH4.out
        go_wp2_with fail
        have HG7 := HG6
        rw [← hh] at HG7
        have HRS7 := HRS6
        clear HG6 HRS6 hh HH4
        generalize hWW : W = W7 at *
        clear hWW
      case' true =>
        have hh : s4 = failS s3 4 := HH4.out
        go_wp2_with fail
        with_reducible refine (HFL.out B s3 _ HG6.out.r).mono ?_
        rintro e W7 ⟨rfl, hd⟩
        have HG7 : Hid (Gr14 w B P s4 k (.slice A4 m c4) W7) := by rw [hh]; exact HG6.out.did hBn hBP' hd
        have HRS7 : Hid (RdS W7 A4 ss) := HRS6.out.turns hd.2 (fun hne a ha he => by have := HNEW.out a ha; omega)
        clear hd HG6 HRS6 hh HH4
        go_wp2_with fail
      all_goals
        with_reducible refine (HEN.out B _ HG7.out.r).mono ?_
        rintro e w8 ⟨rfl, rfl⟩
        have x0 := HG7.out.z.c0
        have x1 := HG7.out.z.c1
        have xf := HG7.out.z.fr
        have y0 := HG7.out.p.c0
        have y1 := HG7.out.p.c1
        by_cases hre : re = 0
        · subst hre
          have HRF := Lib.hid (HRS7.out.turns (((Turns.refl (fun i => i = w.heap.size) W7).setCell (p := ⟨w.heap.size, 0, none⟩) (fun _ => rfl) (.int .i64 (k : Int))).setCell (p := ⟨w.heap.size, 1, none⟩) (fun _ => rfl) (.slice A4 m c4)) (fun hne a ha he => by have := HNEW.out a ha; omega))
          go_wp2
          exact bodyPost_ret (results_two14 Try.results42 _ _ w.heap.size _ _ (0, 0) _ rfl (HG7.out.z.setAll k (.slice A4 m c4)) Try.underlying34 rfl sizeRp14) rfl
            (HOKG.out (by first | rfl | trivial) A4 c4 _ HRF.out HCAP.out.1 HCAP.out.2 (fun a ha => by have := HNEW.out a ha; omega) HNIL.out ((HG7.out.b.setCell (Nat.le_refl _) _).setCell (Nat.le_refl _) _))
        · have hd : (re != 0) = true := by simpa using hre
          have HRE := Lib.hid hre
          clear hre
          go_wp2
          exact bodyPost_ret (results_two14 Try.results42 _ _ w.heap.size _ _ (0, 0) _ rfl (HG7.out.z.setAll 0 (.slice none 0 0)) Try.underlying34 rfl sizeRp14) rfl
            (HBAD.out HRE.out _ ((HG7.out.b.setCell (Nat.le_refl _) _).setCell (Nat.le_refl _) _))
end Go.Proofs.Ytadecmjojnhlnaa

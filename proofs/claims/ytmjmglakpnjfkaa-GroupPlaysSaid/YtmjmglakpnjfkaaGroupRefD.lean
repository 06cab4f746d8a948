/-
  The document's deeds on its rows: Make, Join, Leave.
  Conditions: rows of at most 900; texts of at most 1000 bytes.
-/
import Derived.Test.YtmjmglakpnjfkaaGroupRefC
namespace Go.Proofs.Ytmjmglakpnjfkaa
open Go.RowKit Go.Maps

def dmaE (N : List (List UInt8)) (g : List UInt8) : Int := if name5 g then (if hasT N g then 9 else if 6 ≤ N.length then 7 else 0) else 10
def dmaN (N : List (List UInt8)) (g : List UInt8) : List (List UInt8) := if dmaE N g = 0 then sortT (N ++ [g]) else N
def djoE (N : List (List UInt8)) (M : List Who10) (g n : List UInt8) : Int := if name5 g && name5 n then (if hasT N g then (if inM M g n then 9 else 0) else 8) else 10
def djoM (N : List (List UInt8)) (M : List Who10) (g n : List UInt8) : List Who10 := if djoE N M g n = 0 then M ++ [(g, n)] else M
def dleE (N : List (List UInt8)) (M : List Who10) (g n : List UInt8) : Int := if name5 g && name5 n then (if hasT N g then (if inM M g n then 0 else 12) else 8) else 10
def dleM (N : List (List UInt8)) (M : List Who10) (g n : List UInt8) : List Who10 := if dleE N M g n = 0 then outM M g n else M
/-- What a deed of the document tells: the error, and rows. -/
def Doc10 (E : Int) (N : List (List UInt8)) (M : List Who10) (w : World) (e : Ending) (w' : World) : Prop :=
  ∃ u1 u2, e = .returned (.tuple #[.agg #[u1, u2], .int .i64 E]) ∧ NmR w' u1 N ∧ MbR w' u2 M ∧ Below w.heap.size w w'
theorem own_empty10 (W : World) (T : TypeId) (size : Nat) : (W.alloc (.cells #[] T)).ownsRow W.heap.size T size (.slice (some ⟨W.heap.size, 0, none⟩) 0 0) 0 [] :=
  ⟨by simp, .inr ⟨W.heap.size, 0, #[], rfl, Nat.le_refl _, (MapKept.heap_alloc W _).1, Nat.le_refl _, Nat.zero_le _, by simp, by simp⟩⟩

set_option maxRecDepth 100000 in
set_option maxHeartbeats 4000000 in
theorem rmake10_calls (v1 v2 : Value) (N : List (List UInt8)) (M : List Who10) (s : ByteArray) (w : World) (hN : N.length ≤ 900) (hs : s.size ≤ 1000) (h1 : NmR w v1 N) (h2 : MbR w v2 M) :
    Calls Try.prog 23 #[.agg #[v1, v2], .string s] w (Doc10 (dmaE N s.data.toList) (dmaN N s.data.toList) M w) := by
  obtain ⟨i0, hi, hz0, hz1, hz2⟩ := info_parts infoStr10
  obtain ⟨A1, c1, rfl⟩ := h1.shape
  obtain ⟨A, c, rfl⟩ := h2.shape
  have hb0 : Below w.heap.size w (w.alloc (.cells #[.slice A1 N.length c1, .slice A M.length c] TG)) := below_alloc (Below.refl _ _) _
  have hbx : Bx10 (w.alloc (.cells #[.slice A1 N.length c1, .slice A M.length c] TG)) w.heap.size (.slice A1 N.length c1) (.slice A M.length c) := bx10_new _ _ _
  have HN1 := Lib.hid h1
  have HA := Lib.hid h2
  have HB0 := Lib.hid hb0
  have HBX := Lib.hid hbx
  clear h1 h2 hb0 hbx
  obtain ⟨n1, hn1⟩ : ∃ n1, n1 = N.length := ⟨_, rfl⟩
  obtain ⟨n, hn⟩ : ∃ n, n = M.length := ⟨_, rfl⟩
  rw [← hn1] at HN1 HB0 HBX hN ⊢
  rw [← hn] at HA HB0 HBX ⊢
  have HL1 := Lib.hid hn1
  have HL := Lib.hid hn
  clear hn hn1

  have HR0 : Hid (Bx10 ((w.alloc (.cells #[.slice A1 n1 c1, .slice A n c] TG)).alloc (.cells #[.slice none 0 0, .slice none 0 0] TG)) (w.heap.size + 1) (.slice none 0 0) (.slice none 0 0)) := by
    have := bx10_new (w.alloc (.cells #[.slice A1 n1 c1, .slice A n c] TG)) (.slice none 0 0) (.slice none 0 0)
    rwa [World.size_alloc] at this
  have HBX2 : Hid (Bx10 ((w.alloc (.cells #[.slice A1 n1 c1, .slice A n c] TG)).alloc (.cells #[.slice none 0 0, .slice none 0 0] TG)) w.heap.size (.slice A1 n1 c1) (.slice A n c)) := HBX.out.later (below_alloc (Below.refl _ _) _)
  have HB2 : Hid (Below w.heap.size w ((w.alloc (.cells #[.slice A1 n1 c1, .slice A n c] TG)).alloc (.cells #[.slice none 0 0, .slice none 0 0] TG))) := below_next HB0.out (below_alloc (Below.refl _ _) _)
  have HN := Lib.hid (fun W => rname_calls s W hs)
  have HHS : Hid (∀ W, Below w.heap.size w W → Calls Try.prog 35 #[.slice A1 n1 c1, .string s] W (Tells5 (hasT N s.data.toList) W)) := fun W hb => rhas10_calls _ N s W (by have := HL1.out; omega) (HN1.out.later hb)
  unfold dmaN dmaE
  cases hname : name5 s.data.toList with
  | false =>
    rw [hname] at HN
    clear hname HHS
    show Calls _ _ _ _ (Doc10 10 N M w)
    go_enter Try.func23, Try.ntmps23
    go_wp2_with fail
    generalize (w.alloc (.cells #[.slice A1 n1 c1, .slice A n c] TG)).alloc (.cells #[.slice none 0 0, .slice none 0 0] TG) = w1 at *
    with_reducible refine (HN.out _).mono ?_
    rintro e w2 ⟨rfl, hw⟩
    replace hw := hw.symm
    subst hw
    have hx := HBX2.out.later (Below.refl _ _)
    have hr := HR0.out.later (Below.refl _ _)
    have k0 := hx.c0
    have k1 := hx.c1
    have r0 := hr.c0
    have r1 := hr.c1
    have rf0 := hr.f0
    have rf1 := hr.f1
    have HF := Lib.hid (fin2 HB2.out hr (Nat.le_succ _) (.slice A1 n1 c1) (.slice A n c))
    have HQ1 := Lib.hid (HN1.out.later HB2.out)
    have HQ2 := Lib.hid (HA.out.later HB2.out)
    clear hx hr
    go_wp2
    have z0 := HF.out.1.c0
    have z1 := HF.out.1.c1
    refine bodyPost_ret (v := .tuple #[.agg #[.slice A1 n1 c1, .slice A n c], .int .i64 10]) ?_ rfl ⟨_, _, rfl, HQ1.out.keepG HF.out.2.2, HQ2.out.keepG HF.out.2.2, HF.out.2.1⟩
    simp [results, Try.results23, go_sem, z0, z1]
  | true =>
    rw [hname] at HN
    clear hname
    cases hh : hasT N s.data.toList with
    | true =>
      rw [hh] at HHS
      clear hh
      show Calls _ _ _ _ (Doc10 9 N M w)
      go_enter Try.func23, Try.ntmps23
      go_wp2_with fail
      generalize (w.alloc (.cells #[.slice A1 n1 c1, .slice A n c] TG)).alloc (.cells #[.slice none 0 0, .slice none 0 0] TG) = w1 at *
      with_reducible refine (HN.out _).mono ?_
      rintro e w2 ⟨rfl, hw⟩
      replace hw := hw.symm
      subst hw
      have k9 := HBX2.out.c0
      have HH := Lib.hid (HHS.out w1 HB2.out)
      clear HHS
      go_wp2_with fail
      with_reducible refine HH.out.mono ?_
      rintro e w3 ⟨rfl, hb⟩
      have HB3 := Lib.hid (below_next HB2.out hb)
      clear HH k9
      have hx := HBX2.out.later hb
      have hr := HR0.out.later hb
      have k0 := hx.c0
      have k1 := hx.c1
      have r0 := hr.c0
      have r1 := hr.c1
      have rf0 := hr.f0
      have rf1 := hr.f1
      have HF := Lib.hid (fin2 HB3.out hr (Nat.le_succ _) (.slice A1 n1 c1) (.slice A n c))
      have HQ1 := Lib.hid (HN1.out.later HB3.out)
      have HQ2 := Lib.hid (HA.out.later HB3.out)
      clear hx hr hb
      go_wp2
      have z0 := HF.out.1.c0
      have z1 := HF.out.1.c1
      refine bodyPost_ret (v := .tuple #[.agg #[.slice A1 n1 c1, .slice A n c], .int .i64 9]) ?_ rfl ⟨_, _, rfl, HQ1.out.keepG HF.out.2.2, HQ2.out.keepG HF.out.2.2, HF.out.2.1⟩
      simp [results, Try.results23, go_sem, z0, z1]
    | false =>
      rw [hh] at HHS
      clear hh
      by_cases h6 : 6 ≤ N.length
      · have e7 : (if true = true then if false = true then (9 : Int) else if 6 ≤ N.length then 7 else 0 else 10) = 7 := by simp [h6]
        rw [e7, if_neg (by decide)]
        have z6 : (n1 : Int) ≥ 6 := by have := HL1.out; omega
        have x6 : decide ((n1 : Int) ≥ 6) = true := decide_eq_true z6
        clear e7 h6
        go_enter Try.func23, Try.ntmps23
        go_wp2_with fail
        generalize (w.alloc (.cells #[.slice A1 n1 c1, .slice A n c] TG)).alloc (.cells #[.slice none 0 0, .slice none 0 0] TG) = w1 at *
        with_reducible refine (HN.out _).mono ?_
        rintro e w2 ⟨rfl, hw⟩
        replace hw := hw.symm
        subst hw
        have k9 := HBX2.out.c0
        have HH := Lib.hid (HHS.out w1 HB2.out)
        clear HHS
        go_wp2_with fail
        with_reducible refine HH.out.mono ?_
        rintro e w3 ⟨rfl, hb⟩
        have HB3 := Lib.hid (below_next HB2.out hb)
        clear HH k9
        have hx := HBX2.out.later hb
        have hr := HR0.out.later hb
        have k0 := hx.c0
        have k1 := hx.c1
        have r0 := hr.c0
        have r1 := hr.c1
        have rf0 := hr.f0
        have rf1 := hr.f1
        have HF := Lib.hid (fin2 HB3.out hr (Nat.le_succ _) (.slice A1 n1 c1) (.slice A n c))
        have HQ1 := Lib.hid (HN1.out.later HB3.out)
        have HQ2 := Lib.hid (HA.out.later HB3.out)
        clear hx hr hb
        go_wp2
        have z0 := HF.out.1.c0
        have z1 := HF.out.1.c1
        refine bodyPost_ret (v := .tuple #[.agg #[.slice A1 n1 c1, .slice A n c], .int .i64 7]) ?_ rfl ⟨_, _, rfl, HQ1.out.keepG HF.out.2.2, HQ2.out.keepG HF.out.2.2, HF.out.2.1⟩
        simp [results, Try.results23, go_sem, z0, z1]
      · have e0 : (if true = true then if false = true then (9 : Int) else if 6 ≤ N.length then 7 else 0 else 10) = 0 := by simp [h6]
        rw [e0, if_pos rfl]
        have z6 : ¬ (n1 : Int) ≥ 6 := by have := HL1.out; omega
        have x6 : decide ((n1 : Int) ≥ 6) = false := decide_eq_false z6
        clear e0 h6
        go_enter Try.func23, Try.ntmps23
        go_wp2_with fail
        generalize (w.alloc (.cells #[.slice A1 n1 c1, .slice A n c] TG)).alloc (.cells #[.slice none 0 0, .slice none 0 0] TG) = w1 at *
        with_reducible refine (HN.out _).mono ?_
        rintro e w2 ⟨rfl, hw⟩
        replace hw := hw.symm
        subst hw
        have k9 := HBX2.out.c0
        have HH := Lib.hid (HHS.out w1 HB2.out)
        clear HHS
        go_wp2_with fail
        with_reducible refine HH.out.mono ?_
        rintro e w3 ⟨rfl, hb⟩
        have HB3 := Lib.hid (below_next HB2.out hb)
        clear HH k9
        have k0 := (HBX2.out.later hb).c0
        have kl := (HBX2.out.later hb).lt
        have HEM : Hid ((w3.alloc (.cells #[] 9)).ownsRow 0 9 1 (.slice (some ⟨w3.heap.size, 0, none⟩) 0 0) 0 []) := ownsRow_low10 (own_empty10 w3 9 1) (Nat.zero_le _)
        have HUP : Hid (∀ A4 c4 (w4 : World), w4.ownsRow 0 9 1 (.slice A4 (0 + n1) c4) (0 + n1) ([] ++ N.map encStr) → (w3.alloc (.cells #[] 9)).grownBy w4 (Value.ownBlock (.slice (some ⟨w3.heap.size, 0, none⟩) 0 0)) → (Value.ownBlock (.slice A4 (0 + n1) c4) = Value.ownBlock (.slice (some ⟨w3.heap.size, 0, none⟩) 0 0) ∨ Value.ownBlock (.slice A4 (0 + n1) c4) = some (w3.alloc (.cells #[] 9)).heap.size) →
            w4.ownsRow w3.heap.size 9 1 (.slice A4 n1 c4) n1 (N.map encStr) ∧ Below w3.heap.size w3 w4) := fun A4 c4 w4 h1 h2 h3 => by
          rw [Nat.zero_add, List.nil_append] at h1
          rw [Nat.zero_add] at h3
          refine ⟨own_up10 h1 (fun j hj => ?_), (below_alloc (Below.refl _ _) _).grown h2 (by simp) (fun j hj => by cases hj; exact Nat.le_refl _)⟩
          rcases h3 with h3 | h3
          · rw [h3] at hj; cases hj; exact Nat.le_refl _
          · rw [h3] at hj; injection hj with hj; rw [← hj]; simp
        have HSRC : Hid (Src Try.prog 1 27 (.slice A1 n1 c1) n1 (N.map encStr) (w3.alloc (.cells #[] 9))) := by
          have := ((HN1.out.later HB3.out).later (below_alloc (Below.refl _ _) (.cells #[] 9))).src
          rwa [← HL1.out] at this
        have HBX3 := Lib.hid (HBX2.out.later hb)
        have HR3 := Lib.hid (HR0.out.later hb)
        clear hb
        go_wp2_with (first
        | (at_builtin; refine wpList_append_src _ rfl (.tmp 20) (.tmp 22) 27 27 (by rfl) 9 i0 _ 1 16 Try.underlying27 hi hz0 hz1 hz2 rfl (.slice (some ⟨w3.heap.size, 0, none⟩) 0 0) 0 [] (by rfl) HEM.out (.slice A1 n1 c1) n1 (N.map encStr) (by rfl) HSRC.out (by simp only [maxLen]; omega) (by omega) ?_; intro A4 c4 w4 ho4 hg4 ha4; have HO4 := Lib.hid (HUP.out A4 c4 w4 ho4 hg4 ha4).1; have HB4 := Lib.hid (HUP.out A4 c4 w4 ho4 hg4 ha4).2; clear ho4 hg4 ha4)
        | (at_builtin; refine wpList_append_own _ rfl (.tmp 23) (.tmp 25) 27 rfl w3.heap.size 9 i0 (.string ⟨#[]⟩) 1 16 Try.underlying27 hi hz0 hz1 hz2 rfl (by decide) _ _ _ rfl (HO4.out.alloc _) ⟨w4.heap.size, 0, none⟩ 1 1 [.string s] rfl rfl (fun j u hu => by rw [Addr.add_lit, Nat.zero_add, World.cell?_alloc_at _ _ _ _ (by simp)]; simpa using hu) (by simp [Value.oneCell']) (by unfold maxLen; omega) (by omega) (by have := HB4.out.size; simp; omega) ?_; intro v5 w5 ho5 hg5 _; have HO5 := Lib.hid ho5; have HB5 := Lib.hid (app10 HB4.out HO4.out hg5); clear ho5 hg5)
        | fail)
        have hrow : NmR w5 v5 (N ++ [s.data.toList]) := by
          have := ownsRow_low10 HO5.out (Nat.zero_le _)
          rw [← encStr_back10 s] at this
          show World.ownsRow _ _ _ _ _ _ _
          rw [List.length_append, ← HL1.out]
          simpa using this
        have HSR := Lib.hid (rsorted10_calls v5 (N ++ [s.data.toList]) w5 (by rw [List.length_append, ← HL1.out]; simp; omega) hrow)
        obtain ⟨A5, c5, rfl⟩ := hrow.shape
        clear hrow
        go_wp2_with fail
        with_reducible refine HSR.out.mono ?_
        rintro e w6 ⟨v6, rfl, hr6, hb6⟩
        have HNM : Hid (NmR w6 v6 (sortT (N ++ [s.data.toList]))) := NmR.of hr6
        obtain ⟨A6, c6, rfl⟩ := HNM.out.shape
        have HB36 := Lib.hid (below_next HB5.out hb6)
        have HB6 := Lib.hid (below_next HB3.out HB36.out)
        have HML := Lib.hid (HA.out.later HB6.out)
        have hx := HBX3.out.later HB36.out
        have hr := HR3.out.later HB36.out
        have k0 := hx.c0
        have k1 := hx.c1
        have kf0 := hx.f0
        have r0 := hr.c0
        have r1 := hr.c1
        have rf0 := hr.f0
        have rf1 := hr.f1
        have HF := Lib.hid (fin3 (i := 0) HB6.out hx hr (Nat.le_refl _) (Nat.le_succ _) (by omega) (.slice A6 (sortT (N ++ [s.data.toList])).length c6) (.slice A6 (sortT (N ++ [s.data.toList])).length c6) (.slice A n c))
        clear hx hr hr6 hb6 HSR
        generalize (sortT (N ++ [s.data.toList])).length = q6 at *
        go_wp2
        have z0 := HF.out.1.c0
        have z1 := HF.out.1.c1
        refine bodyPost_ret (v := .tuple #[.agg #[.slice A6 q6 c6, .slice A n c], .int .i64 0]) ?_ rfl ⟨_, _, rfl, HNM.out.keepG HF.out.2.2, HML.out.keepG HF.out.2.2, HF.out.2.1⟩
        simp [results, Try.results23, go_sem, z0, z1]

set_option maxRecDepth 100000 in
set_option maxHeartbeats 4000000 in
theorem rjoin10_calls (v1 v2 : Value) (N : List (List UInt8)) (M : List Who10) (s t : ByteArray) (w : World) (hN : N.length ≤ 900) (hM : M.length ≤ 900) (hs : s.size ≤ 1000) (ht : t.size ≤ 1000) (h1 : NmR w v1 N) (h2 : MbR w v2 M) :
    Calls Try.prog 25 #[.agg #[v1, v2], .string s, .string t] w (Doc10 (djoE N M s.data.toList t.data.toList) N (djoM N M s.data.toList t.data.toList) w) := by
  obtain ⟨i0, hi, hz0, hz1, hz2⟩ := info_parts infoMem10
  obtain ⟨A1, c1, rfl⟩ := h1.shape
  obtain ⟨A, c, rfl⟩ := h2.shape
  have hb0 : Below w.heap.size w (w.alloc (.cells #[.slice A1 N.length c1, .slice A M.length c] TG)) := below_alloc (Below.refl _ _) _
  have hbx : Bx10 (w.alloc (.cells #[.slice A1 N.length c1, .slice A M.length c] TG)) w.heap.size (.slice A1 N.length c1) (.slice A M.length c) := bx10_new _ _ _
  have HN1 := Lib.hid h1
  have HA := Lib.hid h2
  have HB0 := Lib.hid hb0
  have HBX := Lib.hid hbx
  clear h1 h2 hb0 hbx
  obtain ⟨n1, hn1⟩ : ∃ n1, n1 = N.length := ⟨_, rfl⟩
  obtain ⟨n, hn⟩ : ∃ n, n = M.length := ⟨_, rfl⟩
  rw [← hn1] at HN1 HB0 HBX hN ⊢
  rw [← hn] at HA HB0 HBX hM ⊢
  have HL1 := Lib.hid hn1
  have HL := Lib.hid hn
  clear hn hn1

  have HR0 : Hid (Bx10 ((w.alloc (.cells #[.slice A1 n1 c1, .slice A n c] TG)).alloc (.cells #[.slice none 0 0, .slice none 0 0] TG)) (w.heap.size + 1) (.slice none 0 0) (.slice none 0 0)) := by
    have := bx10_new (w.alloc (.cells #[.slice A1 n1 c1, .slice A n c] TG)) (.slice none 0 0) (.slice none 0 0)
    rwa [World.size_alloc] at this
  have HBX2 : Hid (Bx10 ((w.alloc (.cells #[.slice A1 n1 c1, .slice A n c] TG)).alloc (.cells #[.slice none 0 0, .slice none 0 0] TG)) w.heap.size (.slice A1 n1 c1) (.slice A n c)) := HBX.out.later (below_alloc (Below.refl _ _) _)
  have HB2 : Hid (Below w.heap.size w ((w.alloc (.cells #[.slice A1 n1 c1, .slice A n c] TG)).alloc (.cells #[.slice none 0 0, .slice none 0 0] TG))) := below_next HB0.out (below_alloc (Below.refl _ _) _)
  unfold djoM djoE
  have HN := Lib.hid (fun W => rname_calls s W hs)
  have HNT := Lib.hid (fun W => rname_calls t W ht)
  have HHS : Hid (∀ W, Below w.heap.size w W → Calls Try.prog 35 #[.slice A1 n1 c1, .string s] W (Tells5 (hasT N s.data.toList) W)) := fun W hb => rhas10_calls _ N s W (by have := HL1.out; omega) (HN1.out.later hb)
  have HIN : Hid (∀ W, Below w.heap.size w W → Calls Try.prog 41 #[.agg #[.slice A1 n1 c1, .slice A n c], .string s, .string t] W (Tells5 (inM M s.data.toList t.data.toList) W)) := fun W hb => rin10_calls _ _ N M s t W (by have := HL.out; omega) (HN1.out.later hb) (HA.out.later hb)
  cases hname : name5 s.data.toList with
  | false =>
    rw [hname] at HN
    clear hname HHS HIN
    show Calls _ _ _ _ (Doc10 10 N M w)
    go_enter Try.func25, Try.ntmps25
    go_wp2_with fail
    generalize (w.alloc (.cells #[.slice A1 n1 c1, .slice A n c] TG)).alloc (.cells #[.slice none 0 0, .slice none 0 0] TG) = w1 at *
    with_reducible refine (HN.out _).mono ?_
    rintro e w2 ⟨rfl, hw⟩
    replace hw := hw.symm
    subst hw
    have hx := HBX2.out.later (Below.refl _ _)
    have hr := HR0.out.later (Below.refl _ _)
    have k0 := hx.c0
    have k1 := hx.c1
    have r0 := hr.c0
    have r1 := hr.c1
    have rf0 := hr.f0
    have rf1 := hr.f1
    have HF := Lib.hid (fin2 HB2.out hr (Nat.le_succ _) (.slice A1 n1 c1) (.slice A n c))
    have HQ1 := Lib.hid (HN1.out.later HB2.out)
    have HQ2 := Lib.hid (HA.out.later HB2.out)
    clear hx hr
    go_wp2
    have z0 := HF.out.1.c0
    have z1 := HF.out.1.c1
    refine bodyPost_ret (v := .tuple #[.agg #[.slice A1 n1 c1, .slice A n c], .int .i64 10]) ?_ rfl ⟨_, _, rfl, HQ1.out.keepG HF.out.2.2, HQ2.out.keepG HF.out.2.2, HF.out.2.1⟩
    simp [results, Try.results25, go_sem, z0, z1]
  | true =>
    rw [hname] at HN
    clear hname
    cases hname : name5 t.data.toList with
    | false =>
      rw [hname] at HNT
      clear hname HHS HIN
      show Calls _ _ _ _ (Doc10 10 N M w)
      go_enter Try.func25, Try.ntmps25
      go_wp2_with fail
      generalize (w.alloc (.cells #[.slice A1 n1 c1, .slice A n c] TG)).alloc (.cells #[.slice none 0 0, .slice none 0 0] TG) = w1 at *
      with_reducible refine (HN.out _).mono ?_
      rintro e w2 ⟨rfl, hw⟩
      replace hw := hw.symm
      subst hw
      go_wp2_with fail
      with_reducible refine (HNT.out _).mono ?_
      rintro e w2 ⟨rfl, hw⟩
      replace hw := hw.symm
      subst hw
      have hx := HBX2.out.later (Below.refl _ _)
      have hr := HR0.out.later (Below.refl _ _)
      have k0 := hx.c0
      have k1 := hx.c1
      have r0 := hr.c0
      have r1 := hr.c1
      have rf0 := hr.f0
      have rf1 := hr.f1
      have HF := Lib.hid (fin2 HB2.out hr (Nat.le_succ _) (.slice A1 n1 c1) (.slice A n c))
      have HQ1 := Lib.hid (HN1.out.later HB2.out)
      have HQ2 := Lib.hid (HA.out.later HB2.out)
      clear hx hr
      go_wp2
      have z0 := HF.out.1.c0
      have z1 := HF.out.1.c1
      refine bodyPost_ret (v := .tuple #[.agg #[.slice A1 n1 c1, .slice A n c], .int .i64 10]) ?_ rfl ⟨_, _, rfl, HQ1.out.keepG HF.out.2.2, HQ2.out.keepG HF.out.2.2, HF.out.2.1⟩
      simp [results, Try.results25, go_sem, z0, z1]
    | true =>
      rw [hname] at HNT
      clear hname
      cases hh : hasT N s.data.toList with
      | false =>
        rw [hh] at HHS
        clear hh HIN
        show Calls _ _ _ _ (Doc10 8 N M w)
        go_enter Try.func25, Try.ntmps25
        go_wp2_with fail
        generalize (w.alloc (.cells #[.slice A1 n1 c1, .slice A n c] TG)).alloc (.cells #[.slice none 0 0, .slice none 0 0] TG) = w1 at *
        with_reducible refine (HN.out _).mono ?_
        rintro e w2 ⟨rfl, hw⟩
        replace hw := hw.symm
        subst hw
        go_wp2_with fail
        with_reducible refine (HNT.out _).mono ?_
        rintro e w2 ⟨rfl, hw⟩
        replace hw := hw.symm
        subst hw
        have k9 := HBX2.out.c0
        have HH := Lib.hid (HHS.out w1 HB2.out)
        clear HHS
        go_wp2_with fail
        with_reducible refine HH.out.mono ?_
        rintro e w3 ⟨rfl, hb⟩
        have HB3 := Lib.hid (below_next HB2.out hb)
        clear HH k9
        have hx := HBX2.out.later hb
        have hr := HR0.out.later hb
        have k0 := hx.c0
        have k1 := hx.c1
        have r0 := hr.c0
        have r1 := hr.c1
        have rf0 := hr.f0
        have rf1 := hr.f1
        have HF := Lib.hid (fin2 HB3.out hr (Nat.le_succ _) (.slice A1 n1 c1) (.slice A n c))
        have HQ1 := Lib.hid (HN1.out.later HB3.out)
        have HQ2 := Lib.hid (HA.out.later HB3.out)
        clear hx hr hb
        go_wp2
        have z0 := HF.out.1.c0
        have z1 := HF.out.1.c1
        refine bodyPost_ret (v := .tuple #[.agg #[.slice A1 n1 c1, .slice A n c], .int .i64 8]) ?_ rfl ⟨_, _, rfl, HQ1.out.keepG HF.out.2.2, HQ2.out.keepG HF.out.2.2, HF.out.2.1⟩
        simp [results, Try.results25, go_sem, z0, z1]
      | true =>
        rw [hh] at HHS
        clear hh
        cases hin : inM M s.data.toList t.data.toList with
        | true =>
          rw [hin] at HIN
          clear hin
          show Calls _ _ _ _ (Doc10 9 N M w)
          go_enter Try.func25, Try.ntmps25
          go_wp2_with fail
          generalize (w.alloc (.cells #[.slice A1 n1 c1, .slice A n c] TG)).alloc (.cells #[.slice none 0 0, .slice none 0 0] TG) = w1 at *
          with_reducible refine (HN.out _).mono ?_
          rintro e w2 ⟨rfl, hw⟩
          replace hw := hw.symm
          subst hw
          go_wp2_with fail
          with_reducible refine (HNT.out _).mono ?_
          rintro e w2 ⟨rfl, hw⟩
          replace hw := hw.symm
          subst hw
          have k9 := HBX2.out.c0
          have HH := Lib.hid (HHS.out w1 HB2.out)
          clear HHS
          go_wp2_with fail
          with_reducible refine HH.out.mono ?_
          rintro e w2 ⟨rfl, hb⟩
          have HB0' := Lib.hid (below_next HB2.out hb)
          have HBX' := Lib.hid (HBX2.out.later hb)
          have HR' := Lib.hid (HR0.out.later hb)
          have HI2 := Lib.hid (HIN.out w2 HB0'.out)
          have k7 := HBX'.out.c0
          have k8 := HBX'.out.c1
          clear HH k9 hb HIN HBX2 HR0
          go_wp2_with fail
          with_reducible refine HI2.out.mono ?_
          rintro e w3 ⟨rfl, hb⟩
          have HB3 := Lib.hid (below_next HB0'.out hb)
          have HBX2 := HBX'
          have HR0 := HR'
          clear HI2 k7 k8
          have hx := HBX2.out.later hb
          have hr := HR0.out.later hb
          have k0 := hx.c0
          have k1 := hx.c1
          have r0 := hr.c0
          have r1 := hr.c1
          have rf0 := hr.f0
          have rf1 := hr.f1
          have HF := Lib.hid (fin2 HB3.out hr (Nat.le_succ _) (.slice A1 n1 c1) (.slice A n c))
          have HQ1 := Lib.hid (HN1.out.later HB3.out)
          have HQ2 := Lib.hid (HA.out.later HB3.out)
          clear hx hr hb
          go_wp2
          have z0 := HF.out.1.c0
          have z1 := HF.out.1.c1
          refine bodyPost_ret (v := .tuple #[.agg #[.slice A1 n1 c1, .slice A n c], .int .i64 9]) ?_ rfl ⟨_, _, rfl, HQ1.out.keepG HF.out.2.2, HQ2.out.keepG HF.out.2.2, HF.out.2.1⟩
          simp [results, Try.results25, go_sem, z0, z1]
        | false =>
          rw [hin] at HIN
          clear hin
          show Calls _ _ _ _ (Doc10 0 N (M ++ [(s.data.toList, t.data.toList)]) w)
          go_enter Try.func25, Try.ntmps25
          go_wp2_with fail
          generalize (w.alloc (.cells #[.slice A1 n1 c1, .slice A n c] TG)).alloc (.cells #[.slice none 0 0, .slice none 0 0] TG) = w1 at *
          with_reducible refine (HN.out _).mono ?_
          rintro e w2 ⟨rfl, hw⟩
          replace hw := hw.symm
          subst hw
          go_wp2_with fail
          with_reducible refine (HNT.out _).mono ?_
          rintro e w2 ⟨rfl, hw⟩
          replace hw := hw.symm
          subst hw
          have k9 := HBX2.out.c0
          have HH := Lib.hid (HHS.out w1 HB2.out)
          clear HHS
          go_wp2_with fail
          with_reducible refine HH.out.mono ?_
          rintro e w2 ⟨rfl, hb⟩
          have HB0' := Lib.hid (below_next HB2.out hb)
          have HBX' := Lib.hid (HBX2.out.later hb)
          have HR' := Lib.hid (HR0.out.later hb)
          have HI2 := Lib.hid (HIN.out w2 HB0'.out)
          have k7 := HBX'.out.c0
          have k8 := HBX'.out.c1
          clear HH k9 hb HIN HBX2 HR0
          go_wp2_with fail
          with_reducible refine HI2.out.mono ?_
          rintro e w3 ⟨rfl, hb⟩
          have HB3 := Lib.hid (below_next HB0'.out hb)
          have HBX2 := HBX'
          have HR0 := HR'
          clear HI2 k7 k8
          have k1 := (HBX2.out.later hb).c1
          have kl := (HBX2.out.later hb).lt
          have HEM : Hid ((w3.alloc (.cells #[] 65)).ownsRow 0 65 2 (.slice (some ⟨w3.heap.size, 0, none⟩) 0 0) 0 []) := ownsRow_low10 (own_empty10 w3 65 2) (Nat.zero_le _)
          have HUP : Hid (∀ A4 c4 (w4 : World), w4.ownsRow 0 65 2 (.slice A4 (0 + n) c4) (0 + n) ([] ++ M.flatMap pm10) → (w3.alloc (.cells #[] 65)).grownBy w4 (Value.ownBlock (.slice (some ⟨w3.heap.size, 0, none⟩) 0 0)) → (Value.ownBlock (.slice A4 (0 + n) c4) = Value.ownBlock (.slice (some ⟨w3.heap.size, 0, none⟩) 0 0) ∨ Value.ownBlock (.slice A4 (0 + n) c4) = some (w3.alloc (.cells #[] 65)).heap.size) →
              w4.ownsRow w3.heap.size 65 2 (.slice A4 n c4) n (M.flatMap pm10) ∧ Below w3.heap.size w3 w4) := fun A4 c4 w4 h1 h2 h3 => by
            rw [Nat.zero_add, List.nil_append] at h1
            rw [Nat.zero_add] at h3
            refine ⟨own_up10 h1 (fun j hj => ?_), (below_alloc (Below.refl _ _) _).grown h2 (by simp) (fun j hj => by cases hj; exact Nat.le_refl _)⟩
            rcases h3 with h3 | h3
            · rw [h3] at hj; cases hj; exact Nat.le_refl _
            · rw [h3] at hj; injection hj with hj; rw [← hj]; simp
          have HSRC : Hid (Src Try.prog 2 28 (.slice A n c) n (M.flatMap pm10) (w3.alloc (.cells #[] 65))) := by
            have := ((HA.out.later HB3.out).later (below_alloc (Below.refl _ _) (.cells #[] 65))).src
            rwa [← HL.out] at this
          have HBX3 := Lib.hid (HBX2.out.later hb)
          have HR3 := Lib.hid (HR0.out.later hb)
          clear hb
          go_wp2_with (first
          | (at_builtin; refine wpList_append_src _ rfl (.tmp 28) (.tmp 30) 28 28 (by rfl) 65 i0 _ 2 32 Try.underlying28 hi hz0 hz1 hz2 rfl (.slice (some ⟨w3.heap.size, 0, none⟩) 0 0) 0 [] (by rfl) HEM.out (.slice A n c) n (M.flatMap pm10) (by rfl) HSRC.out (by simp only [maxLen]; omega) (by omega) ?_; intro A4 c4 w4 ho4 hg4 ha4; have HO4 := Lib.hid (HUP.out A4 c4 w4 ho4 hg4 ha4).1; have HB4 := Lib.hid (HUP.out A4 c4 w4 ho4 hg4 ha4).2; clear ho4 hg4 ha4)
          | (at_builtin; refine wpList_append_own _ rfl (.tmp 31) (.tmp 35) 28 rfl w3.heap.size 65 i0 (.agg #[.string ⟨#[]⟩, .string ⟨#[]⟩]) 2 32 Try.underlying28 hi hz0 hz1 hz2 rfl (by decide) _ _ _ rfl (HO4.out.alloc _) ⟨w4.heap.size, 0, none⟩ 1 1 [.string s, .string t] rfl rfl (fun j u hu => by rw [Addr.add_lit, Nat.zero_add, World.cell?_alloc_at _ _ _ _ (by simp)]; simpa using hu) (by simp [Value.oneCell']) (by unfold maxLen; omega) (by omega) (by have := HB4.out.size; simp; omega) ?_; intro v5 w5 ho5 hg5 _; have HO5 := Lib.hid ho5; have HB5 := Lib.hid (app10 HB4.out HO4.out hg5); clear ho5 hg5; obtain ⟨A5, c5, rfl⟩ := owns_shape (ownsRow_low10 HO5.out (Nat.zero_le _)); have hx := HBX3.out.later HB5.out; have hr := HR3.out.later HB5.out; have k0 := hx.c0; have k1 := hx.c1; have kf1 := hx.f1; have r0 := hr.c0; have r1 := hr.c1; have rf0 := hr.f0; have rf1 := hr.f1)
          | fail)
          have hrow : MbR w5 (.slice A5 (n + 1) c5) (M ++ [(s.data.toList, t.data.toList)]) := by
            have := ownsRow_low10 HO5.out (Nat.zero_le _)
            have e : pm10 (s.data.toList, t.data.toList) = [.string s, .string t] := by unfold pm10; rw [tx10_back, tx10_back]
            rw [← e] at this
            show World.ownsRow _ _ _ _ _ _ _
            rw [List.length_append, ← HL.out]
            simpa using this
          have HML := Lib.hid hrow
          have HB6 := Lib.hid (below_next HB3.out HB5.out)
          have HNM := Lib.hid (HN1.out.later HB6.out)
          have HF := Lib.hid (fin3 (i := 1) HB6.out hx hr (Nat.le_refl _) (Nat.le_succ _) (by omega) (.slice A5 (n + 1) c5) (.slice A1 n1 c1) (.slice A5 (n + 1) c5))
          clear hx hr hrow HO5
          have z0 := HF.out.1.c0
          have z1 := HF.out.1.c1
          refine bodyPost_ret (v := .tuple #[.agg #[.slice A1 n1 c1, .slice A5 (n + 1) c5], .int .i64 0]) ?_ rfl ⟨_, _, rfl, HNM.out.keepG HF.out.2.2, HML.out.keepG HF.out.2.2, HF.out.2.1⟩
          simp [results, Try.results25, go_sem, z0, z1]
set_option maxRecDepth 100000 in
set_option maxHeartbeats 4000000 in
theorem rleave10_calls (v1 v2 : Value) (N : List (List UInt8)) (M : List Who10) (s t : ByteArray) (w : World) (hN : N.length ≤ 900) (hM : M.length ≤ 900) (hs : s.size ≤ 1000) (ht : t.size ≤ 1000) (h1 : NmR w v1 N) (h2 : MbR w v2 M) :
    Calls Try.prog 26 #[.agg #[v1, v2], .string s, .string t] w (Doc10 (dleE N M s.data.toList t.data.toList) N (dleM N M s.data.toList t.data.toList) w) := by
  obtain ⟨A1, c1, rfl⟩ := h1.shape
  obtain ⟨A, c, rfl⟩ := h2.shape
  have hb0 : Below w.heap.size w (w.alloc (.cells #[.slice A1 N.length c1, .slice A M.length c] TG)) := below_alloc (Below.refl _ _) _
  have hbx : Bx10 (w.alloc (.cells #[.slice A1 N.length c1, .slice A M.length c] TG)) w.heap.size (.slice A1 N.length c1) (.slice A M.length c) := bx10_new _ _ _
  have HN1 := Lib.hid h1
  have HA := Lib.hid h2
  have HB0 := Lib.hid hb0
  have HBX := Lib.hid hbx
  clear h1 h2 hb0 hbx
  obtain ⟨n1, hn1⟩ : ∃ n1, n1 = N.length := ⟨_, rfl⟩
  obtain ⟨n, hn⟩ : ∃ n, n = M.length := ⟨_, rfl⟩
  rw [← hn1] at HN1 HB0 HBX hN ⊢
  rw [← hn] at HA HB0 HBX hM ⊢
  have HL1 := Lib.hid hn1
  have HL := Lib.hid hn
  clear hn hn1

  have HR0 : Hid (Bx10 ((w.alloc (.cells #[.slice A1 n1 c1, .slice A n c] TG)).alloc (.cells #[.slice none 0 0, .slice none 0 0] TG)) (w.heap.size + 1) (.slice none 0 0) (.slice none 0 0)) := by
    have := bx10_new (w.alloc (.cells #[.slice A1 n1 c1, .slice A n c] TG)) (.slice none 0 0) (.slice none 0 0)
    rwa [World.size_alloc] at this
  have HBX2 : Hid (Bx10 ((w.alloc (.cells #[.slice A1 n1 c1, .slice A n c] TG)).alloc (.cells #[.slice none 0 0, .slice none 0 0] TG)) w.heap.size (.slice A1 n1 c1) (.slice A n c)) := HBX.out.later (below_alloc (Below.refl _ _) _)
  have HB2 : Hid (Below w.heap.size w ((w.alloc (.cells #[.slice A1 n1 c1, .slice A n c] TG)).alloc (.cells #[.slice none 0 0, .slice none 0 0] TG))) := below_next HB0.out (below_alloc (Below.refl _ _) _)
  unfold dleM dleE
  have HN := Lib.hid (fun W => rname_calls s W hs)
  have HNT := Lib.hid (fun W => rname_calls t W ht)
  have HHS : Hid (∀ W, Below w.heap.size w W → Calls Try.prog 35 #[.slice A1 n1 c1, .string s] W (Tells5 (hasT N s.data.toList) W)) := fun W hb => rhas10_calls _ N s W (by have := HL1.out; omega) (HN1.out.later hb)
  have HIN : Hid (∀ W, Below w.heap.size w W → Calls Try.prog 41 #[.agg #[.slice A1 n1 c1, .slice A n c], .string s, .string t] W (Tells5 (inM M s.data.toList t.data.toList) W)) := fun W hb => rin10_calls _ _ N M s t W (by have := HL.out; omega) (HN1.out.later hb) (HA.out.later hb)
  have HWO : Hid (∀ W, Below w.heap.size w W → Calls Try.prog 42 #[.agg #[.slice A1 n1 c1, .slice A n c], .string s, .string t] W fun e w' => ∃ v, e = .returned (.agg #[.slice A1 n1 c1, v]) ∧ MbR w' v (outM M s.data.toList t.data.toList) ∧ Below W.heap.size W w') := fun W hb => rwithout10_calls _ _ N M s t W (by have := HL.out; omega) (HN1.out.later hb) (HA.out.later hb)
  cases hname : name5 s.data.toList with
  | false =>
    rw [hname] at HN
    clear hname HHS HIN HWO
    show Calls _ _ _ _ (Doc10 10 N M w)
    go_enter Try.func26, Try.ntmps26
    go_wp2_with fail
    generalize (w.alloc (.cells #[.slice A1 n1 c1, .slice A n c] TG)).alloc (.cells #[.slice none 0 0, .slice none 0 0] TG) = w1 at *
    with_reducible refine (HN.out _).mono ?_
    rintro e w2 ⟨rfl, hw⟩
    replace hw := hw.symm
    subst hw
    have hx := HBX2.out.later (Below.refl _ _)
    have hr := HR0.out.later (Below.refl _ _)
    have k0 := hx.c0
    have k1 := hx.c1
    have r0 := hr.c0
    have r1 := hr.c1
    have rf0 := hr.f0
    have rf1 := hr.f1
    have HF := Lib.hid (fin2 HB2.out hr (Nat.le_succ _) (.slice A1 n1 c1) (.slice A n c))
    have HQ1 := Lib.hid (HN1.out.later HB2.out)
    have HQ2 := Lib.hid (HA.out.later HB2.out)
    clear hx hr
    go_wp2
    have z0 := HF.out.1.c0
    have z1 := HF.out.1.c1
    refine bodyPost_ret (v := .tuple #[.agg #[.slice A1 n1 c1, .slice A n c], .int .i64 10]) ?_ rfl ⟨_, _, rfl, HQ1.out.keepG HF.out.2.2, HQ2.out.keepG HF.out.2.2, HF.out.2.1⟩
    simp [results, Try.results26, go_sem, z0, z1]
  | true =>
    rw [hname] at HN
    clear hname
    cases hname : name5 t.data.toList with
    | false =>
      rw [hname] at HNT
      clear hname HHS HIN HWO
      show Calls _ _ _ _ (Doc10 10 N M w)
      go_enter Try.func26, Try.ntmps26
      go_wp2_with fail
      generalize (w.alloc (.cells #[.slice A1 n1 c1, .slice A n c] TG)).alloc (.cells #[.slice none 0 0, .slice none 0 0] TG) = w1 at *
      with_reducible refine (HN.out _).mono ?_
      rintro e w2 ⟨rfl, hw⟩
      replace hw := hw.symm
      subst hw
      go_wp2_with fail
      with_reducible refine (HNT.out _).mono ?_
      rintro e w2 ⟨rfl, hw⟩
      replace hw := hw.symm
      subst hw
      have hx := HBX2.out.later (Below.refl _ _)
      have hr := HR0.out.later (Below.refl _ _)
      have k0 := hx.c0
      have k1 := hx.c1
      have r0 := hr.c0
      have r1 := hr.c1
      have rf0 := hr.f0
      have rf1 := hr.f1
      have HF := Lib.hid (fin2 HB2.out hr (Nat.le_succ _) (.slice A1 n1 c1) (.slice A n c))
      have HQ1 := Lib.hid (HN1.out.later HB2.out)
      have HQ2 := Lib.hid (HA.out.later HB2.out)
      clear hx hr
      go_wp2
      have z0 := HF.out.1.c0
      have z1 := HF.out.1.c1
      refine bodyPost_ret (v := .tuple #[.agg #[.slice A1 n1 c1, .slice A n c], .int .i64 10]) ?_ rfl ⟨_, _, rfl, HQ1.out.keepG HF.out.2.2, HQ2.out.keepG HF.out.2.2, HF.out.2.1⟩
      simp [results, Try.results26, go_sem, z0, z1]
    | true =>
      rw [hname] at HNT
      clear hname
      cases hh : hasT N s.data.toList with
      | false =>
        rw [hh] at HHS
        clear hh HIN HWO
        show Calls _ _ _ _ (Doc10 8 N M w)
        go_enter Try.func26, Try.ntmps26
        go_wp2_with fail
        generalize (w.alloc (.cells #[.slice A1 n1 c1, .slice A n c] TG)).alloc (.cells #[.slice none 0 0, .slice none 0 0] TG) = w1 at *
        with_reducible refine (HN.out _).mono ?_
        rintro e w2 ⟨rfl, hw⟩
        replace hw := hw.symm
        subst hw
        go_wp2_with fail
        with_reducible refine (HNT.out _).mono ?_
        rintro e w2 ⟨rfl, hw⟩
        replace hw := hw.symm
        subst hw
        have k9 := HBX2.out.c0
        have HH := Lib.hid (HHS.out w1 HB2.out)
        clear HHS
        go_wp2_with fail
        with_reducible refine HH.out.mono ?_
        rintro e w3 ⟨rfl, hb⟩
        have HB3 := Lib.hid (below_next HB2.out hb)
        clear HH k9
        have hx := HBX2.out.later hb
        have hr := HR0.out.later hb
        have k0 := hx.c0
        have k1 := hx.c1
        have r0 := hr.c0
        have r1 := hr.c1
        have rf0 := hr.f0
        have rf1 := hr.f1
        have HF := Lib.hid (fin2 HB3.out hr (Nat.le_succ _) (.slice A1 n1 c1) (.slice A n c))
        have HQ1 := Lib.hid (HN1.out.later HB3.out)
        have HQ2 := Lib.hid (HA.out.later HB3.out)
        clear hx hr hb
        go_wp2
        have z0 := HF.out.1.c0
        have z1 := HF.out.1.c1
        refine bodyPost_ret (v := .tuple #[.agg #[.slice A1 n1 c1, .slice A n c], .int .i64 8]) ?_ rfl ⟨_, _, rfl, HQ1.out.keepG HF.out.2.2, HQ2.out.keepG HF.out.2.2, HF.out.2.1⟩
        simp [results, Try.results26, go_sem, z0, z1]
      | true =>
        rw [hh] at HHS
        clear hh
        cases hin : inM M s.data.toList t.data.toList with
        | false =>
          rw [hin] at HIN
          clear hin HWO
          show Calls _ _ _ _ (Doc10 12 N M w)
          go_enter Try.func26, Try.ntmps26
          go_wp2_with fail
          generalize (w.alloc (.cells #[.slice A1 n1 c1, .slice A n c] TG)).alloc (.cells #[.slice none 0 0, .slice none 0 0] TG) = w1 at *
          with_reducible refine (HN.out _).mono ?_
          rintro e w2 ⟨rfl, hw⟩
          replace hw := hw.symm
          subst hw
          go_wp2_with fail
          with_reducible refine (HNT.out _).mono ?_
          rintro e w2 ⟨rfl, hw⟩
          replace hw := hw.symm
          subst hw
          have k9 := HBX2.out.c0
          have HH := Lib.hid (HHS.out w1 HB2.out)
          clear HHS
          go_wp2_with fail
          with_reducible refine HH.out.mono ?_
          rintro e w2 ⟨rfl, hb⟩
          have HB0' := Lib.hid (below_next HB2.out hb)
          have HBX' := Lib.hid (HBX2.out.later hb)
          have HR' := Lib.hid (HR0.out.later hb)
          have HI2 := Lib.hid (HIN.out w2 HB0'.out)
          have k7 := HBX'.out.c0
          have k8 := HBX'.out.c1
          clear HH k9 hb HIN HBX2 HR0
          go_wp2_with fail
          with_reducible refine HI2.out.mono ?_
          rintro e w3 ⟨rfl, hb⟩
          have HB3 := Lib.hid (below_next HB0'.out hb)
          have HBX2 := HBX'
          have HR0 := HR'
          clear HI2 k7 k8
          have hx := HBX2.out.later hb
          have hr := HR0.out.later hb
          have k0 := hx.c0
          have k1 := hx.c1
          have r0 := hr.c0
          have r1 := hr.c1
          have rf0 := hr.f0
          have rf1 := hr.f1
          have HF := Lib.hid (fin2 HB3.out hr (Nat.le_succ _) (.slice A1 n1 c1) (.slice A n c))
          have HQ1 := Lib.hid (HN1.out.later HB3.out)
          have HQ2 := Lib.hid (HA.out.later HB3.out)
          clear hx hr hb
          go_wp2
          have z0 := HF.out.1.c0
          have z1 := HF.out.1.c1
          refine bodyPost_ret (v := .tuple #[.agg #[.slice A1 n1 c1, .slice A n c], .int .i64 12]) ?_ rfl ⟨_, _, rfl, HQ1.out.keepG HF.out.2.2, HQ2.out.keepG HF.out.2.2, HF.out.2.1⟩
          simp [results, Try.results26, go_sem, z0, z1]
        | true =>
          rw [hin] at HIN
          clear hin
          show Calls _ _ _ _ (Doc10 0 N (outM M s.data.toList t.data.toList) w)
          go_enter Try.func26, Try.ntmps26
          go_wp2_with fail
          generalize (w.alloc (.cells #[.slice A1 n1 c1, .slice A n c] TG)).alloc (.cells #[.slice none 0 0, .slice none 0 0] TG) = w1 at *
          with_reducible refine (HN.out _).mono ?_
          rintro e w2 ⟨rfl, hw⟩
          replace hw := hw.symm
          subst hw
          go_wp2_with fail
          with_reducible refine (HNT.out _).mono ?_
          rintro e w2 ⟨rfl, hw⟩
          replace hw := hw.symm
          subst hw
          have k9 := HBX2.out.c0
          have HH := Lib.hid (HHS.out w1 HB2.out)
          clear HHS
          go_wp2_with fail
          with_reducible refine HH.out.mono ?_
          rintro e w2 ⟨rfl, hb⟩
          have HB0' := Lib.hid (below_next HB2.out hb)
          have HBX' := Lib.hid (HBX2.out.later hb)
          have HR' := Lib.hid (HR0.out.later hb)
          have HI2 := Lib.hid (HIN.out w2 HB0'.out)
          have k7 := HBX'.out.c0
          have k8 := HBX'.out.c1
          clear HH k9 hb HIN HBX2 HR0
          go_wp2_with fail
          with_reducible refine HI2.out.mono ?_
          rintro e w3 ⟨rfl, hb⟩
          have HB3 := Lib.hid (below_next HB0'.out hb)
          have HBX2 := HBX'
          have HR0 := HR'
          clear HI2 k7 k8
          have HBX3 := Lib.hid (HBX2.out.later hb)
          have HR3 := Lib.hid (HR0.out.later hb)
          have HW3 := Lib.hid (HWO.out w3 HB3.out)
          have k0 := HBX3.out.c0
          have k1 := HBX3.out.c1
          clear hb HWO
          go_wp2_with fail
          with_reducible refine HW3.out.mono ?_
          rintro e w6 ⟨v6, rfl, hm6, hb6⟩
          have HML := Lib.hid hm6
          obtain ⟨A6, c6, rfl⟩ := hm6.shape
          have HB6 := Lib.hid (below_next HB3.out hb6)
          have HNM := Lib.hid (HN1.out.later HB6.out)
          have hr := HR3.out.later hb6
          have r0 := hr.c0
          have r1 := hr.c1
          have rf0 := hr.f0
          have rf1 := hr.f1
          have HF := Lib.hid (fin2 HB6.out hr (Nat.le_succ _) (.slice A1 n1 c1) (.slice A6 (outM M s.data.toList t.data.toList).length c6))
          clear hr hm6 hb6 HW3 k0 k1
          generalize (outM M s.data.toList t.data.toList).length = q6 at *
          go_wp2
          have z0 := HF.out.1.c0
          have z1 := HF.out.1.c1
          refine bodyPost_ret (v := .tuple #[.agg #[.slice A1 n1 c1, .slice A6 q6 c6], .int .i64 0]) ?_ rfl ⟨_, _, rfl, HNM.out.keepG HF.out.2.2, HML.out.keepG HF.out.2.2, HF.out.2.1⟩
          simp [results, Try.results26, go_sem, z0, z1]end Go.Proofs.Ytmjmglakpnjfkaa

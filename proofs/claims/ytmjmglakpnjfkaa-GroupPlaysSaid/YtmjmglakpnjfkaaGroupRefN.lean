/-
  The document's Rename on its rows.
  Conditions: rows of at most 900; texts of at most 1000 bytes.
-/
import Derived.Test.YtmjmglakpnjfkaaGroupRefE
namespace Go.Proofs.Ytmjmglakpnjfkaa
open Go.RowKit Go.Maps

set_option maxRecDepth 100000 in
set_option maxHeartbeats 8000000 in
theorem rrename10_calls (v1 v2 : Value) (N : List (List UInt8)) (M : List Who10) (s t : ByteArray) (w : World) (hM : M.length ≤ 900) (ht : t.size ≤ 1000) (h1 : NmR w v1 N) (h2 : MbR w v2 M) :
    Calls Try.prog 28 #[.agg #[v1, v2], .string s, .string t] w (Doc10 (dreE M s.data.toList t.data.toList) N (dreM M s.data.toList t.data.toList) w) := by
  obtain ⟨i0, hi, hz0, hz1, hz2⟩ := info_parts infoMem10
  obtain ⟨A1, c1, rfl⟩ := h1.shape
  obtain ⟨A, c, rfl⟩ := h2.shape
  have hb0 : Below w.heap.size w (w.alloc (.cells #[.slice A1 N.length c1, .slice A M.length c] TG)) := below_alloc (Below.refl _ _) _
  have hbx : Bx10 (w.alloc (.cells #[.slice A1 N.length c1, .slice A M.length c] TG)) w.heap.size (.slice A1 N.length c1) (.slice A M.length c) := bx10_new _ _ _
  have HN1 := Lib.hid h1
  have HA := Lib.hid h2
  have HB0 := Lib.hid hb0
  have HBX := Lib.hid hbx
  clear h1 h2 hb0 hbx
  obtain ⟨n1, hn1⟩ : ∃ n1, n1 = N.length := ⟨_, rfl⟩
  obtain ⟨n, hn⟩ : ∃ n, n = M.length := ⟨_, rfl⟩
  rw [← hn1] at HN1 HB0 HBX ⊢
  rw [← hn] at HA HB0 HBX hM ⊢
  have HL1 := Lib.hid hn1
  have HL := Lib.hid hn
  clear hn hn1

  have HR0 : Hid (Bx10 ((w.alloc (.cells #[.slice A1 n1 c1, .slice A n c] TG)).alloc (.cells #[.slice none 0 0, .slice none 0 0] TG)) (w.heap.size + 1) (.slice none 0 0) (.slice none 0 0)) := by
    have := bx10_new (w.alloc (.cells #[.slice A1 n1 c1, .slice A n c] TG)) (.slice none 0 0) (.slice none 0 0)
    rwa [World.size_alloc] at this
  have HBX2 : Hid (Bx10 ((w.alloc (.cells #[.slice A1 n1 c1, .slice A n c] TG)).alloc (.cells #[.slice none 0 0, .slice none 0 0] TG)) w.heap.size (.slice A1 n1 c1) (.slice A n c)) := HBX.out.later (below_alloc (Below.refl _ _) _)
  have HB2 : Hid (Below w.heap.size w ((w.alloc (.cells #[.slice A1 n1 c1, .slice A n c] TG)).alloc (.cells #[.slice none 0 0, .slice none 0 0] TG))) := below_next HB0.out (below_alloc (Below.refl _ _) _)
  have HN := Lib.hid (fun W => rname_calls t W ht)
  have HOF : Hid (∀ W, Below w.heap.size w W → Calls Try.prog 15 #[.agg #[.slice A1 n1 c1, .slice A n c], .string t] W (Names10 (sortT (ofM M t.data.toList)) W)) := fun W hb => rof10_calls _ _ N M t W (by have := HL.out; omega) (HN1.out.later hb) (HA.out.later hb)
  unfold dreM dreE
  cases hname : name5 t.data.toList with
  | false =>
    rw [hname] at HN
    clear hname HOF
    show Calls _ _ _ _ (Doc10 10 N M w)
    go_enter Try.func28, Try.ntmps28
    go_wp2_with fail
    generalize (w.alloc (.cells #[.slice A1 n1 c1, .slice A n c] TG)).alloc (.cells #[.slice none 0 0, .slice none 0 0] TG) = w1 at *
    with_reducible refine (HN.out _).mono ?_
    rintro e w2 ⟨rfl, hw⟩
    replace hw := hw.symm
    subst hw
    have hx := HBX2.out.later (Below.refl _ _)
    have hr := HR0.out.later (Below.refl _ _)
    have k0 := hx.c0
    have k1 := hx.c1
    have r0 := hr.c0
    have r1 := hr.c1
    have rf0 := hr.f0
    have rf1 := hr.f1
    have HF := Lib.hid (fin2 HB2.out hr (Nat.le_succ _) (.slice A1 n1 c1) (.slice A n c))
    have HQ1 := Lib.hid (HN1.out.later HB2.out)
    have HQ2 := Lib.hid (HA.out.later HB2.out)
    clear hx hr
    go_wp2
    have z0 := HF.out.1.c0
    have z1 := HF.out.1.c1
    refine bodyPost_ret (v := .tuple #[.agg #[.slice A1 n1 c1, .slice A n c], .int .i64 10]) ?_ rfl ⟨_, _, rfl, HQ1.out.keepG HF.out.2.2, HQ2.out.keepG HF.out.2.2, HF.out.2.1⟩
    simp [results, Try.results28, go_sem, z0, z1]
  | true =>
    rw [hname] at HN
    clear hname
    by_cases e : t.data.toList = s.data.toList
    · obtain ⟨b1, b2⟩ := eqs10 e.symm
      have e0 : (if true = true then if t.data.toList ≠ s.data.toList ∧ sortT (ofM M t.data.toList) ≠ [] then (9 : Int) else 0 else 10) = 0 := by simp [e]
      rw [e0, if_pos rfl]
      clear e e0 HOF
      go_enter Try.func28, Try.ntmps28
      go_wp2_with fail
      generalize (w.alloc (.cells #[.slice A1 n1 c1, .slice A n c] TG)).alloc (.cells #[.slice none 0 0, .slice none 0 0] TG) = w1 at *
      with_reducible refine (HN.out _).mono ?_
      rintro e w2 ⟨rfl, hw⟩
      replace hw := hw.symm
      subst hw
      have HBW := HB2
      have HX2 := HBX2
      have HY2 := HR0
      have k1 := HBX2.out.c1
      clear HN
      go_wp2
      clear b1 b2
      go_loopg [8, 29] n (fun gg sl si wr => ∃ k : Nat, k ≤ n ∧ n - k ≤ gg ∧ si = .int .i64 k ∧ Hid (Below w1.heap.size w1 wr) ∧ Hid (wr.ownsRow w1.heap.size 65 2 sl (((M.take k).map fun m => if m.2 == s.data.toList then (m.1, t.data.toList) else m)).length ((((M.take k).map fun m => if m.2 == s.data.toList then (m.1, t.data.toList) else m)).flatMap pm10)))
      case atStart => exact ⟨0, Nat.zero_le _, by omega, rfl, Below.refl _ _, World.ownsRow_nil _ _ _ _⟩
      case round =>
        obtain ⟨k, hk, hg, rfl, HW, HU⟩ := hrel
        have hlen : (((M.take k).map fun m => if m.2 == s.data.toList then (m.1, t.data.toList) else m)).length ≤ n := by
          rw [List.length_map]; simp; omega
        by_cases hlt : k < n
        · have hltz : (k : Int) < (n : Int) := by omega
          have hkl : k < M.length := HL.out ▸ hlt
          obtain ⟨gb, cx, e2, x0, x1⟩ := (HA.out.later (below_next HBW.out HW.out)).at_ hkl
          injection e2 with e2 e2n e2c
          subst e2
          clear e2n e2c
          have HST : Hid (((M.take (k + 1)).map fun m => if m.2 == s.data.toList then (m.1, t.data.toList) else m) = ((M.take k).map fun m => if m.2 == s.data.toList then (m.1, t.data.toList) else m) ++ [if M[k].2 == s.data.toList then (M[k].1, t.data.toList) else M[k]]) := by
            show _ = _
            rw [List.take_succ_eq_append_getElem hkl, List.map_append]
            rfl
          have HTL : Hid ((tx10 M[k].1).data.toList = M[k].1) := tx10_list _
          have HTM : Hid ((tx10 M[k].2).data.toList = M[k].2) := tx10_list _
          have HEG : Hid (encStr M[k].1 = .string (tx10 M[k].1)) := rfl
          have HEN : Hid (encStr M[k].2 = .string (tx10 M[k].2)) := rfl
          have HEV : Hid (pm10 M[k] = [.string (tx10 M[k].1), .string (tx10 M[k].2)]) := rfl
          generalize hMk : M[k] = qk at *
          generalize tx10 qk.1 = gm at *
          generalize tx10 qk.2 = nm at *
          clear hMk
          have HWV := Lib.hid (below_next HW.out (below_alloc (Below.refl wr.heap.size wr) (.cells #[.string gm, .string nm] 65)))
          by_cases e1 : nm.data.toList = s.data.toList
          · obtain ⟨a1, a2⟩ := eqs10 e1
            have HE : Hid (((M.take (k + 1)).map fun m => if m.2 == s.data.toList then (m.1, t.data.toList) else m) = ((M.take k).map fun m => if m.2 == s.data.toList then (m.1, t.data.toList) else m) ++ [(qk.1, t.data.toList)]) := by
              show _ = _
              rw [HST.out, if_pos (by rw [← HTM.out, e1]; simp)]
            have HEV2 : Hid (pm10 (qk.1, t.data.toList) = [.string gm, .string t]) := by
              show _ = _
              have : pm10 (qk.1, t.data.toList) = [Proofs.encStr qk.1, Proofs.encStr t.data.toList] := rfl
              rw [this, HEG.out, encStr_back10]
            have HUZ : Hid ((wr.alloc (.cells #[.string gm, .string t] 65)).ownsRow w1.heap.size 65 2 u8 (((M.take k).map fun m => if m.2 == s.data.toList then (m.1, t.data.toList) else m)).length ((((M.take k).map fun m => if m.2 == s.data.toList then (m.1, t.data.toList) else m)).flatMap pm10)) := HU.out.alloc _
            have HWZ : Hid (Below w1.heap.size w1 (wr.alloc (.cells #[.string gm, .string t] 65))) := below_next HW.out (below_alloc (Below.refl _ _) _)
            clear e1
            go_wp2_with (first
            | (at_builtin; refine wpList_append_own _ rfl _ _ 28 rfl w1.heap.size 65 i0 (.agg #[.string ⟨#[]⟩, .string ⟨#[]⟩]) 2 32 Try.underlying28 hi hz0 hz1 hz2 rfl (by decide) _ _ _ rfl (HUZ.out.alloc _) ⟨wr.heap.size + 1, 0, none⟩ 1 1 [.string gm, .string t] rfl rfl (fun j u hu => by rw [Addr.add_lit, Nat.zero_add, World.cell?_alloc_at _ _ _ _ (by simp)]; simpa using hu) (by simp [Value.oneCell']) (by unfold maxLen; omega) (by omega) (by have := HW.out.size; simp; omega) ?_; intro v2 w2 hown' hgrow _; have HOw2 := Lib.hid hown'; have HGw2 := Lib.hid hgrow; clear hown' hgrow)
            | fail)
            have ho := HOw2.out
            have hev : pm10 (qk.1, t.data.toList) = [.string gm, .string t] := HEV2.out
            rw [← hev] at ho
            have R1 := Lib.hid (app10 HWZ.out HUZ.out HGw2.out)
            have R2 : Hid (w2.ownsRow w1.heap.size 65 2 v2 (((M.take (k + 1)).map fun m => if m.2 == s.data.toList then (m.1, t.data.toList) else m)).length ((((M.take (k + 1)).map fun m => if m.2 == s.data.toList then (m.1, t.data.toList) else m)).flatMap pm10)) := by
              show World.ownsRow _ _ _ _ _ _ _
              rw [HE.out]
              simpa using ho
            clear ho hev
            go_roundg (n - (k + 1))
            case measure => omega
            case rel => exact ⟨k + 1, by omega, by omega, by go_num, R1, R2⟩
          · obtain ⟨a1, a2⟩ := nes10 e1
            have HE : Hid (((M.take (k + 1)).map fun m => if m.2 == s.data.toList then (m.1, t.data.toList) else m) = ((M.take k).map fun m => if m.2 == s.data.toList then (m.1, t.data.toList) else m) ++ [qk]) := by
              show _ = _
              rw [HST.out, if_neg (by rw [← HTM.out]; simpa using e1)]
            have HEV2 := HEV
            have HUZ := Lib.hid (HU.out.alloc (.cells #[.string gm, .string nm] 65))
            have HWZ := HWV
            clear e1
            go_wp2_with (first
            | (at_builtin; refine wpList_append_own _ rfl _ _ 28 rfl w1.heap.size 65 i0 (.agg #[.string ⟨#[]⟩, .string ⟨#[]⟩]) 2 32 Try.underlying28 hi hz0 hz1 hz2 rfl (by decide) _ _ _ rfl (HUZ.out.alloc _) ⟨wr.heap.size + 1, 0, none⟩ 1 1 [.string gm, .string nm] rfl rfl (fun j u hu => by rw [Addr.add_lit, Nat.zero_add, World.cell?_alloc_at _ _ _ _ (by simp)]; simpa using hu) (by simp [Value.oneCell']) (by unfold maxLen; omega) (by omega) (by have := HW.out.size; simp; omega) ?_; intro v2 w2 hown' hgrow _; have HOw2 := Lib.hid hown'; have HGw2 := Lib.hid hgrow; clear hown' hgrow)
            | fail)
            have ho := HOw2.out
            have hev : pm10 qk = [.string gm, .string nm] := HEV2.out
            rw [← hev] at ho
            have R1 := Lib.hid (app10 HWZ.out HUZ.out HGw2.out)
            have R2 : Hid (w2.ownsRow w1.heap.size 65 2 v2 (((M.take (k + 1)).map fun m => if m.2 == s.data.toList then (m.1, t.data.toList) else m)).length ((((M.take (k + 1)).map fun m => if m.2 == s.data.toList then (m.1, t.data.toList) else m)).flatMap pm10)) := by
              show World.ownsRow _ _ _ _ _ _ _
              rw [HE.out]
              simpa using ho
            clear ho hev
            go_roundg (n - (k + 1))
            case measure => omega
            case rel => exact ⟨k + 1, by omega, by omega, by go_num, R1, R2⟩
        · have hltz : ¬ (k : Int) < (n : Int) := by omega
          obtain rfl : k = n := by omega
          have hu := HU.out
          rw [List.take_of_length_le (by have := HL.out; omega)] at hu
          have HBR := Lib.hid (below_next HBW.out HW.out)
          have HML : Hid (MbR wr u8 (renM M s.data.toList t.data.toList)) := MbR.of hu
          have HNF := Lib.hid (HN1.out.later HBR.out)
          have hx := HX2.out.later HW.out
          have hr := HY2.out.later HW.out
          have k0 := hx.c0
          have k1 := hx.c1
          have kf1 := hx.f1
          have r0 := hr.c0
          have r1 := hr.c1
          have rf0 := hr.f0
          have rf1 := hr.f1
          obtain ⟨AL, cL, rfl⟩ := HML.out.shape
          generalize (renM M s.data.toList t.data.toList).length = q at *
          have HF := Lib.hid (fin3 (i := 1) HBR.out hx hr (Nat.le_refl _) (Nat.le_succ _) (by omega) (.slice AL q cL) (.slice A1 n1 c1) (.slice AL q cL))
          clear hu hx hr HU
          go_wp2
          have z0 := HF.out.1.c0
          have z1 := HF.out.1.c1
          refine bodyPost_ret (v := .tuple #[.agg #[.slice A1 n1 c1, .slice AL q cL], .int .i64 0]) ?_ rfl ⟨_, _, rfl, HNF.out.keepG HF.out.2.2, HML.out.keepG HF.out.2.2, HF.out.2.1⟩
          simp [results, Try.results28, go_sem, z0, z1]
    · obtain ⟨b1, b2⟩ := nes10 (fun h => e (Eq.symm h) : ¬ s.data.toList = t.data.toList)
      by_cases h9 : sortT (ofM M t.data.toList) = []
      · have e0 : (if true = true then if t.data.toList ≠ s.data.toList ∧ sortT (ofM M t.data.toList) ≠ [] then (9 : Int) else 0 else 10) = 0 := by simp [h9]
        rw [e0, if_pos rfl]
        rw [h9] at HOF
        clear e e0 h9
        go_enter Try.func28, Try.ntmps28
        go_wp2_with fail
        generalize (w.alloc (.cells #[.slice A1 n1 c1, .slice A n c] TG)).alloc (.cells #[.slice none 0 0, .slice none 0 0] TG) = w1 at *
        with_reducible refine (HN.out _).mono ?_
        rintro e w2 ⟨rfl, hw⟩
        replace hw := hw.symm
        subst hw
        have HO1 := Lib.hid (HOF.out w1 HB2.out)
        have k0 := HBX2.out.c0
        have k1 := HBX2.out.c1
        clear HN HOF
        go_wp2_with fail
        with_reducible refine HO1.out.mono ?_
        rintro e w3 ⟨vo, rfl, hro, hb⟩
        obtain ⟨AO, cO, rfl⟩ := row10_shape hro
        have HBW := Lib.hid (below_next HB2.out hb)
        have HX2 := Lib.hid (HBX2.out.later hb)
        have HY2 := Lib.hid (HR0.out.later hb)
        have k1 := HX2.out.c1
        clear hro hb HO1 k0 HBX2 HR0 HB2
        go_wp2
        go_loopg [8, 29] n (fun gg sl si wr => ∃ k : Nat, k ≤ n ∧ n - k ≤ gg ∧ si = .int .i64 k ∧ Hid (Below w3.heap.size w3 wr) ∧ Hid (wr.ownsRow w3.heap.size 65 2 sl (((M.take k).map fun m => if m.2 == s.data.toList then (m.1, t.data.toList) else m)).length ((((M.take k).map fun m => if m.2 == s.data.toList then (m.1, t.data.toList) else m)).flatMap pm10)))
        case atStart => exact ⟨0, Nat.zero_le _, by omega, rfl, Below.refl _ _, World.ownsRow_nil _ _ _ _⟩
        case round =>
          obtain ⟨k, hk, hg, rfl, HW, HU⟩ := hrel
          have hlen : (((M.take k).map fun m => if m.2 == s.data.toList then (m.1, t.data.toList) else m)).length ≤ n := by
            rw [List.length_map]; simp; omega
          by_cases hlt : k < n
          · have hltz : (k : Int) < (n : Int) := by omega
            have hkl : k < M.length := HL.out ▸ hlt
            obtain ⟨gb, cx, e2, x0, x1⟩ := (HA.out.later (below_next HBW.out HW.out)).at_ hkl
            injection e2 with e2 e2n e2c
            subst e2
            clear e2n e2c
            have HST : Hid (((M.take (k + 1)).map fun m => if m.2 == s.data.toList then (m.1, t.data.toList) else m) = ((M.take k).map fun m => if m.2 == s.data.toList then (m.1, t.data.toList) else m) ++ [if M[k].2 == s.data.toList then (M[k].1, t.data.toList) else M[k]]) := by
              show _ = _
              rw [List.take_succ_eq_append_getElem hkl, List.map_append]
              rfl
            have HTL : Hid ((tx10 M[k].1).data.toList = M[k].1) := tx10_list _
            have HTM : Hid ((tx10 M[k].2).data.toList = M[k].2) := tx10_list _
            have HEG : Hid (encStr M[k].1 = .string (tx10 M[k].1)) := rfl
            have HEN : Hid (encStr M[k].2 = .string (tx10 M[k].2)) := rfl
            have HEV : Hid (pm10 M[k] = [.string (tx10 M[k].1), .string (tx10 M[k].2)]) := rfl
            generalize hMk : M[k] = qk at *
            generalize tx10 qk.1 = gm at *
            generalize tx10 qk.2 = nm at *
            clear hMk
            have HWV := Lib.hid (below_next HW.out (below_alloc (Below.refl wr.heap.size wr) (.cells #[.string gm, .string nm] 65)))
            by_cases e1 : nm.data.toList = s.data.toList
            · obtain ⟨a1, a2⟩ := eqs10 e1
              have HE : Hid (((M.take (k + 1)).map fun m => if m.2 == s.data.toList then (m.1, t.data.toList) else m) = ((M.take k).map fun m => if m.2 == s.data.toList then (m.1, t.data.toList) else m) ++ [(qk.1, t.data.toList)]) := by
                show _ = _
                rw [HST.out, if_pos (by rw [← HTM.out, e1]; simp)]
              have HEV2 : Hid (pm10 (qk.1, t.data.toList) = [.string gm, .string t]) := by
                show _ = _
                have : pm10 (qk.1, t.data.toList) = [Proofs.encStr qk.1, Proofs.encStr t.data.toList] := rfl
                rw [this, HEG.out, encStr_back10]
              have HUZ : Hid ((wr.alloc (.cells #[.string gm, .string t] 65)).ownsRow w3.heap.size 65 2 u8 (((M.take k).map fun m => if m.2 == s.data.toList then (m.1, t.data.toList) else m)).length ((((M.take k).map fun m => if m.2 == s.data.toList then (m.1, t.data.toList) else m)).flatMap pm10)) := HU.out.alloc _
              have HWZ : Hid (Below w3.heap.size w3 (wr.alloc (.cells #[.string gm, .string t] 65))) := below_next HW.out (below_alloc (Below.refl _ _) _)
              clear e1
              go_wp2_with (first
              | (at_builtin; refine wpList_append_own _ rfl _ _ 28 rfl w3.heap.size 65 i0 (.agg #[.string ⟨#[]⟩, .string ⟨#[]⟩]) 2 32 Try.underlying28 hi hz0 hz1 hz2 rfl (by decide) _ _ _ rfl (HUZ.out.alloc _) ⟨wr.heap.size + 1, 0, none⟩ 1 1 [.string gm, .string t] rfl rfl (fun j u hu => by rw [Addr.add_lit, Nat.zero_add, World.cell?_alloc_at _ _ _ _ (by simp)]; simpa using hu) (by simp [Value.oneCell']) (by unfold maxLen; omega) (by omega) (by have := HW.out.size; simp; omega) ?_; intro v2 w2 hown' hgrow _; have HOw2 := Lib.hid hown'; have HGw2 := Lib.hid hgrow; clear hown' hgrow)
              | fail)
              have ho := HOw2.out
              have hev : pm10 (qk.1, t.data.toList) = [.string gm, .string t] := HEV2.out
              rw [← hev] at ho
              have R1 := Lib.hid (app10 HWZ.out HUZ.out HGw2.out)
              have R2 : Hid (w2.ownsRow w3.heap.size 65 2 v2 (((M.take (k + 1)).map fun m => if m.2 == s.data.toList then (m.1, t.data.toList) else m)).length ((((M.take (k + 1)).map fun m => if m.2 == s.data.toList then (m.1, t.data.toList) else m)).flatMap pm10)) := by
                show World.ownsRow _ _ _ _ _ _ _
                rw [HE.out]
                simpa using ho
              clear ho hev
              go_roundg (n - (k + 1))
              case measure => omega
              case rel => exact ⟨k + 1, by omega, by omega, by go_num, R1, R2⟩
            · obtain ⟨a1, a2⟩ := nes10 e1
              have HE : Hid (((M.take (k + 1)).map fun m => if m.2 == s.data.toList then (m.1, t.data.toList) else m) = ((M.take k).map fun m => if m.2 == s.data.toList then (m.1, t.data.toList) else m) ++ [qk]) := by
                show _ = _
                rw [HST.out, if_neg (by rw [← HTM.out]; simpa using e1)]
              have HEV2 := HEV
              have HUZ := Lib.hid (HU.out.alloc (.cells #[.string gm, .string nm] 65))
              have HWZ := HWV
              clear e1
              go_wp2_with (first
              | (at_builtin; refine wpList_append_own _ rfl _ _ 28 rfl w3.heap.size 65 i0 (.agg #[.string ⟨#[]⟩, .string ⟨#[]⟩]) 2 32 Try.underlying28 hi hz0 hz1 hz2 rfl (by decide) _ _ _ rfl (HUZ.out.alloc _) ⟨wr.heap.size + 1, 0, none⟩ 1 1 [.string gm, .string nm] rfl rfl (fun j u hu => by rw [Addr.add_lit, Nat.zero_add, World.cell?_alloc_at _ _ _ _ (by simp)]; simpa using hu) (by simp [Value.oneCell']) (by unfold maxLen; omega) (by omega) (by have := HW.out.size; simp; omega) ?_; intro v2 w2 hown' hgrow _; have HOw2 := Lib.hid hown'; have HGw2 := Lib.hid hgrow; clear hown' hgrow)
              | fail)
              have ho := HOw2.out
              have hev : pm10 qk = [.string gm, .string nm] := HEV2.out
              rw [← hev] at ho
              have R1 := Lib.hid (app10 HWZ.out HUZ.out HGw2.out)
              have R2 : Hid (w2.ownsRow w3.heap.size 65 2 v2 (((M.take (k + 1)).map fun m => if m.2 == s.data.toList then (m.1, t.data.toList) else m)).length ((((M.take (k + 1)).map fun m => if m.2 == s.data.toList then (m.1, t.data.toList) else m)).flatMap pm10)) := by
                show World.ownsRow _ _ _ _ _ _ _
                rw [HE.out]
                simpa using ho
              clear ho hev
              go_roundg (n - (k + 1))
              case measure => omega
              case rel => exact ⟨k + 1, by omega, by omega, by go_num, R1, R2⟩
          · have hltz : ¬ (k : Int) < (n : Int) := by omega
            obtain rfl : k = n := by omega
            have hu := HU.out
            rw [List.take_of_length_le (by have := HL.out; omega)] at hu
            have HBR := Lib.hid (below_next HBW.out HW.out)
            have HML : Hid (MbR wr u8 (renM M s.data.toList t.data.toList)) := MbR.of hu
            have HNF := Lib.hid (HN1.out.later HBR.out)
            have hx := HX2.out.later HW.out
            have hr := HY2.out.later HW.out
            have k0 := hx.c0
            have k1 := hx.c1
            have kf1 := hx.f1
            have r0 := hr.c0
            have r1 := hr.c1
            have rf0 := hr.f0
            have rf1 := hr.f1
            obtain ⟨AL, cL, rfl⟩ := HML.out.shape
            generalize (renM M s.data.toList t.data.toList).length = q at *
            have HF := Lib.hid (fin3 (i := 1) HBR.out hx hr (Nat.le_refl _) (Nat.le_succ _) (by omega) (.slice AL q cL) (.slice A1 n1 c1) (.slice AL q cL))
            clear hu hx hr HU
            go_wp2
            have z0 := HF.out.1.c0
            have z1 := HF.out.1.c1
            refine bodyPost_ret (v := .tuple #[.agg #[.slice A1 n1 c1, .slice AL q cL], .int .i64 0]) ?_ rfl ⟨_, _, rfl, HNF.out.keepG HF.out.2.2, HML.out.keepG HF.out.2.2, HF.out.2.1⟩
            simp [results, Try.results28, go_sem, z0, z1]
      · have e9 : (if true = true then if t.data.toList ≠ s.data.toList ∧ sortT (ofM M t.data.toList) ≠ [] then (9 : Int) else 0 else 10) = 9 := by simp [h9, e]
        rw [e9, if_neg (by decide)]
        have hpos : 0 < (sortT (ofM M t.data.toList)).length := List.length_pos_iff.2 h9
        clear e e9 h9
        generalize sortT (ofM M t.data.toList) = LO at *
        go_enter Try.func28, Try.ntmps28
        go_wp2_with fail
        generalize (w.alloc (.cells #[.slice A1 n1 c1, .slice A n c] TG)).alloc (.cells #[.slice none 0 0, .slice none 0 0] TG) = w1 at *
        with_reducible refine (HN.out _).mono ?_
        rintro e w2 ⟨rfl, hw⟩
        replace hw := hw.symm
        subst hw
        have HO1 := Lib.hid (HOF.out w1 HB2.out)
        have k0 := HBX2.out.c0
        have k1 := HBX2.out.c1
        clear HN HOF
        go_wp2_with fail
        with_reducible refine HO1.out.mono ?_
        rintro e w3 ⟨vo, rfl, hro, hb⟩
        obtain ⟨AO, cO, rfl⟩ := row10_shape hro
        have HB3 := Lib.hid (below_next HB2.out hb)
        clear hro HO1 k0 k1
        generalize LO.length = qo at *
        have hposz : (qo : Int) > 0 := by omega
        have hposd : decide ((qo : Int) > 0) = true := decide_eq_true hposz
        have hx := HBX2.out.later hb
        have hr := HR0.out.later hb
        have k0 := hx.c0
        have k1 := hx.c1
        have r0 := hr.c0
        have r1 := hr.c1
        have rf0 := hr.f0
        have rf1 := hr.f1
        have HF := Lib.hid (fin2 HB3.out hr (Nat.le_succ _) (.slice A1 n1 c1) (.slice A n c))
        have HQ1 := Lib.hid (HN1.out.later HB3.out)
        have HQ2 := Lib.hid (HA.out.later HB3.out)
        clear hx hr hb
        go_wp2
        have z0 := HF.out.1.c0
        have z1 := HF.out.1.c1
        refine bodyPost_ret (v := .tuple #[.agg #[.slice A1 n1 c1, .slice A n c], .int .i64 9]) ?_ rfl ⟨_, _, rfl, HQ1.out.keepG HF.out.2.2, HQ2.out.keepG HF.out.2.2, HF.out.2.1⟩
        simp [results, Try.results28, go_sem, z0, z1]
end Go.Proofs.Ytmjmglakpnjfkaa

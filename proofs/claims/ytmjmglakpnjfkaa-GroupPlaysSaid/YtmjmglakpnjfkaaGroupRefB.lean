/-
  The document's rows: is a name in a group; members of a group; groups of a name; without a member.
  Conditions: rows of at most 900; texts of at most 1000 bytes.
-/
import Derived.Test.YtmjmglakpnjfkaaGroupRef
namespace Go.Proofs.Ytmjmglakpnjfkaa
open Go.RowKit Go.Maps

abbrev TG : TypeId := 30
def ddrE (N : List (List UInt8)) (g : List UInt8) : Int := if name5 g then (if hasT N g then 0 else 8) else 10
def dmeL (N : List (List UInt8)) (M : List Who10) (g : List UInt8) : List (List UInt8) := if ddrE N g = 0 then sortT (whoM M g) else []

set_option maxRecDepth 100000 in
set_option maxHeartbeats 2000000 in
theorem rin10_calls (v1 v2 : Value) (N : List (List UInt8)) (M : List Who10) (s t : ByteArray) (w : World) (hM : M.length ≤ 900) (h1 : NmR w v1 N) (h2 : MbR w v2 M) :
    Calls Try.prog 41 #[.agg #[v1, v2], .string s, .string t] w (Tells5 (inM M s.data.toList t.data.toList) w) := by
  obtain ⟨A1, c1, rfl⟩ := h1.shape
  obtain ⟨A, c, rfl⟩ := h2.shape
  have hb0 : Below w.heap.size w (w.alloc (.cells #[.slice A1 N.length c1, .slice A M.length c] TG)) := below_alloc (Below.refl _ _) _
  have hbx : Bx10 (w.alloc (.cells #[.slice A1 N.length c1, .slice A M.length c] TG)) w.heap.size (.slice A1 N.length c1) (.slice A M.length c) := bx10_new _ _ _
  have HN1 := Lib.hid h1
  have HA := Lib.hid h2
  have HB0 := Lib.hid hb0
  have HBX := Lib.hid hbx
  clear h1 h2 hb0 hbx
  obtain ⟨n1, hn1⟩ : ∃ n1, n1 = N.length := ⟨_, rfl⟩
  obtain ⟨n, hn⟩ : ∃ n, n = M.length := ⟨_, rfl⟩
  rw [← hn1] at HN1 HB0 HBX ⊢
  rw [← hn] at HA HB0 HBX hM ⊢
  have HL1 := Lib.hid hn1
  have HL := Lib.hid hn
  clear hn hn1
  obtain ⟨r, hr⟩ : ∃ r, r = inM M s.data.toList t.data.toList := ⟨_, rfl⟩
  rw [← hr]
  have HRS := Lib.hid hr
  clear hr
  go_enter Try.func41, Try.ntmps41
  go_wp2
  generalize w.alloc (.cells #[.slice A1 n1 c1, .slice A n c] TG) = w1 at *
  have HBW := HB0
  go_loopg [12] n (fun gg s12 wr => ∃ k : Nat, k ≤ n ∧ n - k ≤ gg ∧ s12 = .int .i64 k ∧ Hid (Below w1.heap.size w1 wr) ∧ Hid (∀ j (h : j < M.length), j < k → M[j] ≠ (s.data.toList, t.data.toList)))
  case atStart => exact ⟨0, Nat.zero_le _, by omega, rfl, Below.refl _ _, fun j _ hj => absurd hj (Nat.not_lt_zero _)⟩
  case round =>
    obtain ⟨k, hk, hg, rfl, HW, A0⟩ := hrel
    by_cases hlt : k < n
    · have hltz : (k : Int) < (n : Int) := by omega
      have hkl : k < M.length := HL.out ▸ hlt
      obtain ⟨gb, cx, e2, x0, x1⟩ := (HA.out.later (below_next HBW.out HW.out)).at_ hkl
      injection e2 with e2 e2n e2c
      subst e2
      clear e2n e2c
      have HX : Hid (M[k] ≠ (s.data.toList, t.data.toList) → ∀ j (h : j < M.length), j < k + 1 → M[j] ≠ (s.data.toList, t.data.toList)) := fun hq j h hj => by
        by_cases e : j = k
        · subst e; exact hq
        · exact A0.out j h (by omega)
      have HIN : Hid (M[k] = (s.data.toList, t.data.toList) → r = true) := fun hq => HRS.out.trans (inM_iff.2 (hq ▸ List.getElem_mem hkl))
      have HTL : Hid ((tx10 M[k].1).data.toList = M[k].1) := tx10_list _
      have HTM : Hid ((tx10 M[k].2).data.toList = M[k].2) := tx10_list _
      have HEG : Hid (encStr M[k].1 = .string (tx10 M[k].1)) := rfl
      have HEN : Hid (encStr M[k].2 = .string (tx10 M[k].2)) := rfl
      have HEV : Hid (pm10 M[k] = [.string (tx10 M[k].1), .string (tx10 M[k].2)]) := rfl
      generalize hMk : M[k] = qk at *
      generalize tx10 qk.1 = gm at *
      generalize tx10 qk.2 = nm at *
      clear hMk
      have HWV := Lib.hid (below_next HW.out (below_alloc (Below.refl wr.heap.size wr) (.cells #[.string gm, .string nm] 65)))
      by_cases e1 : gm.data.toList = s.data.toList
      · obtain ⟨a1, a2⟩ := eqs10 e1
        by_cases e3 : nm.data.toList = t.data.toList
        · obtain ⟨b1, b2⟩ := eqs10 e3
          have HR : Hid (r = true) := HIN.out (by rw [← e1, ← e3, HTL.out, HTM.out])
          have HB := Lib.hid (below_next HBW.out HWV.out)
          clear e1 e3 HX HIN A0
          go_wp2
          go_ret
          exact ⟨by rw [HR.out]; rfl, HB.out⟩
        · obtain ⟨b1, b2⟩ := nes10 e3
          have HY := Lib.hid (HX.out (fun h => e3 (by rw [HTM.out, h])))
          clear e1 e3 HX HIN A0
          go_wp2
          go_roundg (n - (k + 1))
          case measure => omega
          case rel => exact ⟨k + 1, by omega, by omega, by go_num, HWV, HY⟩
      · obtain ⟨a1, a2⟩ := nes10 e1
        have HY := Lib.hid (HX.out (fun h => e1 (by rw [HTL.out, h])))
        clear e1 HX HIN A0
        go_wp2
        go_roundg (n - (k + 1))
        case measure => omega
        case rel => exact ⟨k + 1, by omega, by omega, by go_num, HWV, HY⟩
    · have hltz : ¬ (k : Int) < (n : Int) := by omega
      obtain rfl : k = n := by omega
      have HR : Hid (r = false) := HRS.out.trans (by
        cases hh : inM M s.data.toList t.data.toList
        · rfl
        · obtain ⟨j, hj, e⟩ := List.getElem_of_mem (inM_iff.1 hh)
          exact absurd e (A0.out j hj (by have := HL.out; omega)))
      have HB := Lib.hid (below_next HBW.out HW.out)
      clear A0
      go_wp2
      go_ret
      exact ⟨by rw [HR.out]; rfl, HB.out⟩

set_option maxRecDepth 100000 in
set_option maxHeartbeats 4000000 in
theorem rof10_calls (v1 v2 : Value) (N : List (List UInt8)) (M : List Who10) (s : ByteArray) (w : World) (hM : M.length ≤ 900) (h1 : NmR w v1 N) (h2 : MbR w v2 M) :
    Calls Try.prog 15 #[.agg #[v1, v2], .string s] w (Names10 (sortT (ofM M s.data.toList)) w) := by
  obtain ⟨i0, hi, hz0, hz1, hz2⟩ := info_parts infoStr10
  obtain ⟨A1, c1, rfl⟩ := h1.shape
  obtain ⟨A, c, rfl⟩ := h2.shape
  have hb0 : Below w.heap.size w (w.alloc (.cells #[.slice A1 N.length c1, .slice A M.length c] TG)) := below_alloc (Below.refl _ _) _
  have hbx : Bx10 (w.alloc (.cells #[.slice A1 N.length c1, .slice A M.length c] TG)) w.heap.size (.slice A1 N.length c1) (.slice A M.length c) := bx10_new _ _ _
  have HN1 := Lib.hid h1
  have HA := Lib.hid h2
  have HB0 := Lib.hid hb0
  have HBX := Lib.hid hbx
  clear h1 h2 hb0 hbx
  obtain ⟨n1, hn1⟩ : ∃ n1, n1 = N.length := ⟨_, rfl⟩
  obtain ⟨n, hn⟩ : ∃ n, n = M.length := ⟨_, rfl⟩
  rw [← hn1] at HN1 HB0 HBX ⊢
  rw [← hn] at HA HB0 HBX hM ⊢
  have HL1 := Lib.hid hn1
  have HL := Lib.hid hn
  clear hn hn1
  go_enter Try.func15, Try.ntmps15
  go_wp2
  generalize w.alloc (.cells #[.slice A1 n1 c1, .slice A n c] TG) = w1 at *
  have HBW := HB0
  go_loopg [5, 11] n (fun gg sl si wr => ∃ k : Nat, k ≤ n ∧ n - k ≤ gg ∧ si = .int .i64 k ∧ Hid (Below w1.heap.size w1 wr) ∧ Hid (wr.ownsRow w1.heap.size 9 1 sl (((M.take k).filter fun m => m.2 == s.data.toList).map (·.1)).length ((((M.take k).filter fun m => m.2 == s.data.toList).map (·.1)).map encStr)))
  case atStart => exact ⟨0, Nat.zero_le _, by omega, rfl, Below.refl _ _, World.ownsRow_nil _ _ _ _⟩
  case round =>
    obtain ⟨k, hk, hg, rfl, HW, HU⟩ := hrel
    have hlen : (((M.take k).filter fun m => m.2 == s.data.toList).map (·.1)).length ≤ n := by
      rw [List.length_map]
      exact Nat.le_trans (List.length_filter_le _ _) (by simp; omega)
    by_cases hlt : k < n
    · have hltz : (k : Int) < (n : Int) := by omega
      have hkl : k < M.length := HL.out ▸ hlt
      obtain ⟨gb, cx, e2, x0, x1⟩ := (HA.out.later (below_next HBW.out HW.out)).at_ hkl
      injection e2 with e2 e2n e2c
      subst e2
      clear e2n e2c
      have HST : Hid (((M.take (k + 1)).filter fun m => m.2 == s.data.toList).map (·.1) = ((M.take k).filter fun m => m.2 == s.data.toList).map (·.1) ++ if M[k].2 == s.data.toList then [M[k].1] else []) := by
        show _ = _
        rw [filter_snoc10 _ M hkl, List.map_append]
        cases M[k].2 == s.data.toList <;> rfl
      have HUV := Lib.hid (HU.out.alloc (.cells #[.string (tx10 M[k].1), .string (tx10 M[k].2)] 65))
      have HTL : Hid ((tx10 M[k].1).data.toList = M[k].1) := tx10_list _
      have HTM : Hid ((tx10 M[k].2).data.toList = M[k].2) := tx10_list _
      have HEG : Hid (encStr M[k].1 = .string (tx10 M[k].1)) := rfl
      have HEN : Hid (encStr M[k].2 = .string (tx10 M[k].2)) := rfl
      have HEV : Hid (pm10 M[k] = [.string (tx10 M[k].1), .string (tx10 M[k].2)]) := rfl
      generalize hMk : M[k] = qk at *
      generalize tx10 qk.1 = gm at *
      generalize tx10 qk.2 = nm at *
      clear hMk
      have HWV := Lib.hid (below_next HW.out (below_alloc (Below.refl wr.heap.size wr) (.cells #[.string gm, .string nm] 65)))
      by_cases e1 : nm.data.toList = s.data.toList
      · obtain ⟨a1, a2⟩ := eqs10 e1
        have HE : Hid (((M.take (k + 1)).filter fun m => m.2 == s.data.toList).map (·.1) = ((M.take k).filter fun m => m.2 == s.data.toList).map (·.1) ++ [qk.1]) := by
          show _ = _
          rw [HST.out, if_pos (by rw [← HTM.out, e1]; simp)]
        clear e1
        go_wp2_with (first
        | (at_builtin; refine wpList_append_own _ rfl _ _ 27 rfl w1.heap.size 9 i0 (.string ⟨#[]⟩) 1 16 Try.underlying27 hi hz0 hz1 hz2 rfl (by decide) _ _ _ rfl (HUV.out.alloc _) ⟨wr.heap.size + 1, 0, none⟩ 1 1 [.string gm] rfl rfl (fun j u hu => by rw [Addr.add_lit, Nat.zero_add, World.cell?_alloc_at _ _ _ _ (by simp)]; simpa using hu) (by simp [Value.oneCell']) (by unfold maxLen; omega) (by omega) (by have := HW.out.size; simp; omega) ?_; intro v2 w2 hown' hgrow _; have HOw2 := Lib.hid hown'; have HGw2 := Lib.hid hgrow; clear hown' hgrow)
        | fail)
        have ho := HOw2.out
        rw [← HEG.out] at ho
        have R1 := Lib.hid (app10 HWV.out HUV.out HGw2.out)
        have R2 : Hid (w2.ownsRow w1.heap.size 9 1 v2 (((M.take (k + 1)).filter fun m => m.2 == s.data.toList).map (·.1)).length ((((M.take (k + 1)).filter fun m => m.2 == s.data.toList).map (·.1)).map encStr)) := by
          show World.ownsRow _ _ _ _ _ _ _
          rw [HE.out]
          simpa using ho
        clear ho
        go_roundg (n - (k + 1))
        case measure => omega
        case rel => exact ⟨k + 1, by omega, by omega, by go_num, R1, R2⟩
      · obtain ⟨a1, a2⟩ := nes10 e1
        have HE : Hid (((M.take (k + 1)).filter fun m => m.2 == s.data.toList).map (·.1) = ((M.take k).filter fun m => m.2 == s.data.toList).map (·.1)) := by
          show _ = _
          rw [HST.out, if_neg (by rw [← HTM.out]; simpa using e1), List.append_nil]
        clear e1
        go_wp2
        go_roundg (n - (k + 1))
        case measure => omega
        case rel => exact ⟨k + 1, by omega, by omega, by go_num, HWV, (show Hid _ from by rw [HE.out]; exact HUV.out)⟩
    · have hltz : ¬ (k : Int) < (n : Int) := by omega
      obtain rfl : k = n := by omega
      have hu := HU.out
      rw [List.take_of_length_le (by have := HL.out; omega)] at hu
      have hul : (ofM M s.data.toList).length ≤ 999 := by
        unfold ofM
        rw [List.length_map]
        exact Nat.le_trans (List.length_filter_le _ _) (by have := HL.out; omega)
      obtain ⟨L0, hL0⟩ : ∃ L0, L0 = ofM M s.data.toList := ⟨_, rfl⟩
      have hu0 : NmR wr u5 L0 := by rw [hL0]; exact NmR.of hu
      have HSR := Lib.hid (rsorted10_calls _ L0 wr (by rw [hL0]; exact hul) hu0)
      have HBR := Lib.hid (below_next HBW.out HW.out)
      obtain ⟨AL, cL, rfl⟩ := NmR.shape hu0
      have HL0 := Lib.hid hL0
      clear hu hul hu0 hL0
      go_wp2_with fail
      with_reducible refine HSR.out.mono ?_
      rintro e w9 ⟨v, rfl, hr, hb⟩
      rw [HL0.out] at hr
      have HF : Hid (Names10 (sortT (ofM M s.data.toList)) w (.returned v) w9) := ⟨v, rfl, ownsRow_low10 hr HBR.out.size, below_next HBR.out hb⟩
      obtain ⟨A9, c9, rfl⟩ := row10_shape hr
      clear hr hb HSR
      generalize (sortT (ofM M s.data.toList)).length = n9 at *
      go_wp2
      go_ret
      exact HF.out
set_option maxRecDepth 100000 in
set_option maxHeartbeats 4000000 in
theorem rmembers10_calls (v1 v2 : Value) (N : List (List UInt8)) (M : List Who10) (s : ByteArray) (w : World) (hN : N.length ≤ 900) (hM : M.length ≤ 900) (hs : s.size ≤ 1000) (h1 : NmR w v1 N) (h2 : MbR w v2 M) :
    Calls Try.prog 13 #[.agg #[v1, v2], .string s] w fun e w' => ∃ v, e = .returned (.tuple #[v, .int .i64 (ddrE N s.data.toList)]) ∧ w'.ownsRow w.heap.size 9 1 v (dmeL N M s.data.toList).length ((dmeL N M s.data.toList).map encStr) ∧ Below w.heap.size w w' := by
  obtain ⟨i0, hi, hz0, hz1, hz2⟩ := info_parts infoStr10
  obtain ⟨A1, c1, rfl⟩ := h1.shape
  obtain ⟨A, c, rfl⟩ := h2.shape
  have hb0 : Below w.heap.size w (w.alloc (.cells #[.slice A1 N.length c1, .slice A M.length c] TG)) := below_alloc (Below.refl _ _) _
  have hbx : Bx10 (w.alloc (.cells #[.slice A1 N.length c1, .slice A M.length c] TG)) w.heap.size (.slice A1 N.length c1) (.slice A M.length c) := bx10_new _ _ _
  have HN1 := Lib.hid h1
  have HA := Lib.hid h2
  have HB0 := Lib.hid hb0
  have HBX := Lib.hid hbx
  clear h1 h2 hb0 hbx
  obtain ⟨n1, hn1⟩ : ∃ n1, n1 = N.length := ⟨_, rfl⟩
  obtain ⟨n, hn⟩ : ∃ n, n = M.length := ⟨_, rfl⟩
  rw [← hn1] at HN1 HB0 HBX hN ⊢
  rw [← hn] at HA HB0 HBX hM ⊢
  have HL1 := Lib.hid hn1
  have HL := Lib.hid hn
  clear hn hn1
  have HN := Lib.hid (fun W => rname_calls s W hs)
  have HHS := Lib.hid (rhas10_calls (.slice A1 n1 c1) N s (w.alloc (.cells #[.slice A1 n1 c1, .slice A n c] TG)) (by have := HL1.out; omega) (HN1.out.later HB0.out))
  unfold dmeL ddrE
  cases hname : name5 s.data.toList with
  | false =>
    rw [hname] at HN
    clear hname HHS
    show Calls _ _ _ _ fun e w' => ∃ v, e = .returned (.tuple #[v, .int .i64 10]) ∧ w'.ownsRow w.heap.size 9 1 v 0 [] ∧ Below w.heap.size w w'
    go_enter Try.func13, Try.ntmps13
    go_wp2_with fail
    with_reducible refine (HN.out _).mono ?_
    rintro e w2 ⟨rfl, rfl⟩
    go_wp2
    go_ret2
    exact ⟨_, rfl, World.ownsRow_nil _ _ _ _, HB0.out⟩
  | true =>
    rw [hname] at HN
    clear hname
    cases hh : hasT N s.data.toList with
    | false =>
      rw [hh] at HHS
      clear hh
      show Calls _ _ _ _ fun e w' => ∃ v, e = .returned (.tuple #[v, .int .i64 8]) ∧ w'.ownsRow w.heap.size 9 1 v 0 [] ∧ Below w.heap.size w w'
      go_enter Try.func13, Try.ntmps13
      go_wp2_with fail
      with_reducible refine (HN.out _).mono ?_
      rintro e w2 ⟨rfl, rfl⟩
      go_wp2_with fail
      with_reducible refine HHS.out.mono ?_
      rintro e w3 ⟨rfl, hb⟩
      have HB := Lib.hid (below_next HB0.out hb)
      clear hb HHS
      go_wp2
      go_ret2
      exact ⟨_, rfl, World.ownsRow_nil _ _ _ _, HB.out⟩
    | true =>
      rw [hh] at HHS
      clear hh
      show Calls _ _ _ _ fun e w' => ∃ v, e = .returned (.tuple #[v, .int .i64 0]) ∧ w'.ownsRow w.heap.size 9 1 v (sortT (whoM M s.data.toList)).length ((sortT (whoM M s.data.toList)).map encStr) ∧ Below w.heap.size w w'
      go_enter Try.func13, Try.ntmps13
      go_wp2_with fail
      with_reducible refine (HN.out _).mono ?_
      rintro e w2 ⟨rfl, rfl⟩
      go_wp2_with fail
      with_reducible refine HHS.out.mono ?_
      rintro e w1 ⟨rfl, hb⟩
      have HBW := Lib.hid (below_next HB0.out hb)
      have c1 := (HBX.out.later hb).c1
      clear hb HHS HN
      go_wp2
      go_loopg [6, 20] n (fun gg sl si wr => ∃ k : Nat, k ≤ n ∧ n - k ≤ gg ∧ si = .int .i64 k ∧ Hid (Below w1.heap.size w1 wr) ∧ Hid (wr.ownsRow w1.heap.size 9 1 sl (((M.take k).filter fun m => m.1 == s.data.toList).map (·.2)).length ((((M.take k).filter fun m => m.1 == s.data.toList).map (·.2)).map encStr)))
      case atStart => exact ⟨0, Nat.zero_le _, by omega, rfl, Below.refl _ _, World.ownsRow_nil _ _ _ _⟩
      case round =>
        obtain ⟨k, hk, hg, rfl, HW, HU⟩ := hrel
        have hlen : (((M.take k).filter fun m => m.1 == s.data.toList).map (·.2)).length ≤ n := by
          rw [List.length_map]
          exact Nat.le_trans (List.length_filter_le _ _) (by simp; omega)
        by_cases hlt : k < n
        · have hltz : (k : Int) < (n : Int) := by omega
          have hkl : k < M.length := HL.out ▸ hlt
          obtain ⟨gb, cx, e2, x0, x1⟩ := (HA.out.later (below_next HBW.out HW.out)).at_ hkl
          injection e2 with e2 e2n e2c
          subst e2
          clear e2n e2c
          have HST : Hid (((M.take (k + 1)).filter fun m => m.1 == s.data.toList).map (·.2) = ((M.take k).filter fun m => m.1 == s.data.toList).map (·.2) ++ if M[k].1 == s.data.toList then [M[k].2] else []) := by
            show _ = _
            rw [filter_snoc10 _ M hkl, List.map_append]
            cases M[k].1 == s.data.toList <;> rfl
          have HUV := Lib.hid (HU.out.alloc (.cells #[.string (tx10 M[k].1), .string (tx10 M[k].2)] 65))
          have HTL : Hid ((tx10 M[k].1).data.toList = M[k].1) := tx10_list _
          have HTM : Hid ((tx10 M[k].2).data.toList = M[k].2) := tx10_list _
          have HEG : Hid (encStr M[k].1 = .string (tx10 M[k].1)) := rfl
          have HEN : Hid (encStr M[k].2 = .string (tx10 M[k].2)) := rfl
          have HEV : Hid (pm10 M[k] = [.string (tx10 M[k].1), .string (tx10 M[k].2)]) := rfl
          generalize hMk : M[k] = qk at *
          generalize tx10 qk.1 = gm at *
          generalize tx10 qk.2 = nm at *
          clear hMk
          have HWV := Lib.hid (below_next HW.out (below_alloc (Below.refl wr.heap.size wr) (.cells #[.string gm, .string nm] 65)))
          by_cases e1 : gm.data.toList = s.data.toList
          · obtain ⟨a1, a2⟩ := eqs10 e1
            have HE : Hid (((M.take (k + 1)).filter fun m => m.1 == s.data.toList).map (·.2) = ((M.take k).filter fun m => m.1 == s.data.toList).map (·.2) ++ [qk.2]) := by
              show _ = _
              rw [HST.out, if_pos (by rw [← HTL.out, e1]; simp)]
            clear e1
            go_wp2_with (first
            | (at_builtin; refine wpList_append_own _ rfl _ _ 27 rfl w1.heap.size 9 i0 (.string ⟨#[]⟩) 1 16 Try.underlying27 hi hz0 hz1 hz2 rfl (by decide) _ _ _ rfl (HUV.out.alloc _) ⟨wr.heap.size + 1, 0, none⟩ 1 1 [.string nm] rfl rfl (fun j u hu => by rw [Addr.add_lit, Nat.zero_add, World.cell?_alloc_at _ _ _ _ (by simp)]; simpa using hu) (by simp [Value.oneCell']) (by unfold maxLen; omega) (by omega) (by have := HW.out.size; simp; omega) ?_; intro v2 w2 hown' hgrow _; have HOw2 := Lib.hid hown'; have HGw2 := Lib.hid hgrow; clear hown' hgrow)
            | fail)
            have ho := HOw2.out
            rw [← HEN.out] at ho
            have R1 := Lib.hid (app10 HWV.out HUV.out HGw2.out)
            have R2 : Hid (w2.ownsRow w1.heap.size 9 1 v2 (((M.take (k + 1)).filter fun m => m.1 == s.data.toList).map (·.2)).length ((((M.take (k + 1)).filter fun m => m.1 == s.data.toList).map (·.2)).map encStr)) := by
              show World.ownsRow _ _ _ _ _ _ _
              rw [HE.out]
              simpa using ho
            clear ho
            go_roundg (n - (k + 1))
            case measure => omega
            case rel => exact ⟨k + 1, by omega, by omega, by go_num, R1, R2⟩
          · obtain ⟨a1, a2⟩ := nes10 e1
            have HE : Hid (((M.take (k + 1)).filter fun m => m.1 == s.data.toList).map (·.2) = ((M.take k).filter fun m => m.1 == s.data.toList).map (·.2)) := by
              show _ = _
              rw [HST.out, if_neg (by rw [← HTL.out]; simpa using e1), List.append_nil]
            clear e1
            go_wp2
            go_roundg (n - (k + 1))
            case measure => omega
            case rel => exact ⟨k + 1, by omega, by omega, by go_num, HWV, (show Hid _ from by rw [HE.out]; exact HUV.out)⟩
        · have hltz : ¬ (k : Int) < (n : Int) := by omega
          obtain rfl : k = n := by omega
          have hu := HU.out
          rw [List.take_of_length_le (by have := HL.out; omega)] at hu
          have hul : (whoM M s.data.toList).length ≤ 999 := by
            unfold whoM
            rw [List.length_map]
            exact Nat.le_trans (List.length_filter_le _ _) (by have := HL.out; omega)
          obtain ⟨L0, hL0⟩ : ∃ L0, L0 = whoM M s.data.toList := ⟨_, rfl⟩
          have hu0 : NmR wr u6 L0 := by rw [hL0]; exact NmR.of hu
          have HSR := Lib.hid (rsorted10_calls _ L0 wr (by rw [hL0]; exact hul) hu0)
          have HBR := Lib.hid (below_next HBW.out HW.out)
          obtain ⟨AL, cL, rfl⟩ := NmR.shape hu0
          have HL0 := Lib.hid hL0
          clear hu hul hu0 hL0
          go_wp2_with fail
          with_reducible refine HSR.out.mono ?_
          rintro e w9 ⟨v, rfl, hr, hb⟩
          rw [HL0.out] at hr
          have HO9 := Lib.hid (ownsRow_low10 hr HBR.out.size)
          have HB9 := Lib.hid (below_next HBR.out hb)
          obtain ⟨A9, c9, rfl⟩ := row10_shape hr
          clear hr hb HSR
          go_wp2
          go_ret2
          exact ⟨_, rfl, HO9.out, HB9.out⟩end Go.Proofs.Ytmjmglakpnjfkaa

/-
  The document's deeds on its rows: Drop, Remove, Rename.
  Conditions: rows of at most 900; texts of at most 1000 bytes.
-/
import Derived.Test.YtmjmglakpnjfkaaGroupRefD
namespace Go.Proofs.Ytmjmglakpnjfkaa
open Go.RowKit Go.Maps

def ddrN (N : List (List UInt8)) (g : List UInt8) : List (List UInt8) := if ddrE N g = 0 then dropN N g else N
def ddrM (N : List (List UInt8)) (M : List Who10) (g : List UInt8) : List Who10 := if ddrE N g = 0 then dropM M g else M
def dreE (M : List Who10) (o n : List UInt8) : Int := if name5 n then (if n ≠ o ∧ sortT (ofM M n) ≠ [] then 9 else 0) else 10
def dreM (M : List Who10) (o n : List UInt8) : List Who10 := if dreE M o n = 0 then renM M o n else M

set_option maxRecDepth 100000 in
set_option maxHeartbeats 4000000 in
theorem rdrop10_calls (v1 v2 : Value) (N : List (List UInt8)) (M : List Who10) (s : ByteArray) (w : World) (hN : N.length ≤ 900) (hM : M.length ≤ 900) (hs : s.size ≤ 1000) (h1 : NmR w v1 N) (h2 : MbR w v2 M) :
    Calls Try.prog 24 #[.agg #[v1, v2], .string s] w (Doc10 (ddrE N s.data.toList) (ddrN N s.data.toList) (ddrM N M s.data.toList) w) := by
  obtain ⟨i0, hi, hz0, hz1, hz2⟩ := info_parts infoStr10
  obtain ⟨A1, c1, rfl⟩ := h1.shape
  obtain ⟨A, c, rfl⟩ := h2.shape
  have hb0 : Below w.heap.size w (w.alloc (.cells #[.slice A1 N.length c1, .slice A M.length c] TG)) := below_alloc (Below.refl _ _) _
  have hbx : Bx10 (w.alloc (.cells #[.slice A1 N.length c1, .slice A M.length c] TG)) w.heap.size (.slice A1 N.length c1) (.slice A M.length c) := bx10_new _ _ _
  have HN1 := Lib.hid h1
  have HA := Lib.hid h2
  have HB0 := Lib.hid hb0
  have HBX := Lib.hid hbx
  clear h1 h2 hb0 hbx
  obtain ⟨n1, hn1⟩ : ∃ n1, n1 = N.length := ⟨_, rfl⟩
  obtain ⟨n, hn⟩ : ∃ n, n = M.length := ⟨_, rfl⟩
  rw [← hn1] at HN1 HB0 HBX hN ⊢
  rw [← hn] at HA HB0 HBX hM ⊢
  have HL1 := Lib.hid hn1
  have HL := Lib.hid hn
  clear hn hn1

  have HR0 : Hid (Bx10 ((w.alloc (.cells #[.slice A1 n1 c1, .slice A n c] TG)).alloc (.cells #[.slice none 0 0, .slice none 0 0] TG)) (w.heap.size + 1) (.slice none 0 0) (.slice none 0 0)) := by
    have := bx10_new (w.alloc (.cells #[.slice A1 n1 c1, .slice A n c] TG)) (.slice none 0 0) (.slice none 0 0)
    rwa [World.size_alloc] at this
  have HBX2 : Hid (Bx10 ((w.alloc (.cells #[.slice A1 n1 c1, .slice A n c] TG)).alloc (.cells #[.slice none 0 0, .slice none 0 0] TG)) w.heap.size (.slice A1 n1 c1) (.slice A n c)) := HBX.out.later (below_alloc (Below.refl _ _) _)
  have HB2 : Hid (Below w.heap.size w ((w.alloc (.cells #[.slice A1 n1 c1, .slice A n c] TG)).alloc (.cells #[.slice none 0 0, .slice none 0 0] TG))) := below_next HB0.out (below_alloc (Below.refl _ _) _)
  have HN := Lib.hid (fun W => rname_calls s W hs)
  have HHS : Hid (∀ W, Below w.heap.size w W → Calls Try.prog 35 #[.slice A1 n1 c1, .string s] W (Tells5 (hasT N s.data.toList) W)) := fun W hb => rhas10_calls _ N s W (by have := HL1.out; omega) (HN1.out.later hb)
  unfold ddrN ddrM ddrE
  cases hname : name5 s.data.toList with
  | false =>
    rw [hname] at HN
    clear hname HHS
    show Calls _ _ _ _ (Doc10 10 N M w)
    go_enter Try.func24, Try.ntmps24
    go_wp2_with fail
    generalize (w.alloc (.cells #[.slice A1 n1 c1, .slice A n c] TG)).alloc (.cells #[.slice none 0 0, .slice none 0 0] TG) = w1 at *
    with_reducible refine (HN.out _).mono ?_
    rintro e w2 ⟨rfl, hw⟩
    replace hw := hw.symm
    subst hw
    have hx := HBX2.out.later (Below.refl _ _)
    have hr := HR0.out.later (Below.refl _ _)
    have k0 := hx.c0
    have k1 := hx.c1
    have r0 := hr.c0
    have r1 := hr.c1
    have rf0 := hr.f0
    have rf1 := hr.f1
    have HF := Lib.hid (fin2 HB2.out hr (Nat.le_succ _) (.slice A1 n1 c1) (.slice A n c))
    have HQ1 := Lib.hid (HN1.out.later HB2.out)
    have HQ2 := Lib.hid (HA.out.later HB2.out)
    clear hx hr
    go_wp2
    have z0 := HF.out.1.c0
    have z1 := HF.out.1.c1
    refine bodyPost_ret (v := .tuple #[.agg #[.slice A1 n1 c1, .slice A n c], .int .i64 10]) ?_ rfl ⟨_, _, rfl, HQ1.out.keepG HF.out.2.2, HQ2.out.keepG HF.out.2.2, HF.out.2.1⟩
    simp [results, Try.results24, go_sem, z0, z1]
  | true =>
    rw [hname] at HN
    clear hname
    cases hh : hasT N s.data.toList with
    | false =>
      rw [hh] at HHS
      clear hh
      show Calls _ _ _ _ (Doc10 8 N M w)
      go_enter Try.func24, Try.ntmps24
      go_wp2_with fail
      generalize (w.alloc (.cells #[.slice A1 n1 c1, .slice A n c] TG)).alloc (.cells #[.slice none 0 0, .slice none 0 0] TG) = w1 at *
      with_reducible refine (HN.out _).mono ?_
      rintro e w2 ⟨rfl, hw⟩
      replace hw := hw.symm
      subst hw
      have k9 := HBX2.out.c0
      have HH := Lib.hid (HHS.out w1 HB2.out)
      clear HHS
      go_wp2_with fail
      with_reducible refine HH.out.mono ?_
      rintro e w3 ⟨rfl, hb⟩
      have HB3 := Lib.hid (below_next HB2.out hb)
      clear HH k9
      have hx := HBX2.out.later hb
      have hr := HR0.out.later hb
      have k0 := hx.c0
      have k1 := hx.c1
      have r0 := hr.c0
      have r1 := hr.c1
      have rf0 := hr.f0
      have rf1 := hr.f1
      have HF := Lib.hid (fin2 HB3.out hr (Nat.le_succ _) (.slice A1 n1 c1) (.slice A n c))
      have HQ1 := Lib.hid (HN1.out.later HB3.out)
      have HQ2 := Lib.hid (HA.out.later HB3.out)
      clear hx hr hb
      go_wp2
      have z0 := HF.out.1.c0
      have z1 := HF.out.1.c1
      refine bodyPost_ret (v := .tuple #[.agg #[.slice A1 n1 c1, .slice A n c], .int .i64 8]) ?_ rfl ⟨_, _, rfl, HQ1.out.keepG HF.out.2.2, HQ2.out.keepG HF.out.2.2, HF.out.2.1⟩
      simp [results, Try.results24, go_sem, z0, z1]
    | true =>
      rw [hh] at HHS
      clear hh
      show Calls _ _ _ _ (Doc10 0 (dropN N s.data.toList) (dropM M s.data.toList) w)
      go_enter Try.func24, Try.ntmps24
      go_wp2_with fail
      generalize (w.alloc (.cells #[.slice A1 n1 c1, .slice A n c] TG)).alloc (.cells #[.slice none 0 0, .slice none 0 0] TG) = w1 at *
      with_reducible refine (HN.out _).mono ?_
      rintro e w2 ⟨rfl, hw⟩
      replace hw := hw.symm
      subst hw
      have k9 := HBX2.out.c0
      have HH := Lib.hid (HHS.out w1 HB2.out)
      clear HHS HN
      go_wp2_with fail
      with_reducible refine HH.out.mono ?_
      rintro e w3 ⟨rfl, hb⟩
      have HB3 := Lib.hid (below_next HB2.out hb)
      have HBX3 := Lib.hid (HBX2.out.later hb)
      have HR3 := Lib.hid (HR0.out.later hb)
      have k0 := HBX3.out.c0
      clear HH k9 hb HBX2 HR0 HB2
      go_wp2
      go_loopg [6, 25] n1 (fun gg sl si wr => ∃ k : Nat, k ≤ n1 ∧ n1 - k ≤ gg ∧ si = .int .i64 k ∧ Hid (Below w3.heap.size w3 wr) ∧ Hid (wr.ownsRow w3.heap.size 9 1 sl ((N.take k).filter (fun x => !(x == s.data.toList))).length (((N.take k).filter (fun x => !(x == s.data.toList))).map encStr)))
      case atStart => exact ⟨0, Nat.zero_le _, by omega, rfl, Below.refl _ _, World.ownsRow_nil _ _ _ _⟩
      case round =>
        obtain ⟨k, hk, hg, rfl, HW, HU⟩ := hrel
        have hlen : ((N.take k).filter (fun x => !(x == s.data.toList))).length ≤ n1 := Nat.le_trans (List.length_filter_le _ _) (by simp; omega)
        by_cases hlt : k < n1
        · have hltz : (k : Int) < (n1 : Int) := by omega
          have hkl : k < N.length := HL1.out ▸ hlt
          obtain ⟨gb, cx, e2, x0⟩ := (HN1.out.later (below_next HB3.out HW.out)).at_ hkl
          injection e2 with e2 e2n e2c
          subst e2
          clear e2n e2c
          have HST : Hid ((N.take (k + 1)).filter (fun x => !(x == s.data.toList)) = (N.take k).filter (fun x => !(x == s.data.toList)) ++ if (fun x => !(x == s.data.toList)) N[k] then [N[k]] else []) := filter_snoc10 _ N hkl
          have HTL : Hid ((tx10 N[k]).data.toList = N[k]) := tx10_list _
          have HEG : Hid (encStr N[k] = .string (tx10 N[k])) := rfl
          generalize hMk : N[k] = qk at *
          generalize tx10 qk = gm at *
          clear hMk
          by_cases e1 : gm.data.toList = s.data.toList
          · obtain ⟨a1, a2⟩ := eqs10 e1
            have cg : (qk == s.data.toList) = true := by rw [← HTL.out]; simpa using e1
            have HE : Hid ((N.take (k + 1)).filter (fun x => !(x == s.data.toList)) = (N.take k).filter (fun x => !(x == s.data.toList))) := by
              show _ = _
              rw [HST.out, if_neg (by simp [cg]), List.append_nil]
            clear cg e1
            go_wp2
            go_roundg (n1 - (k + 1))
            case measure => omega
            case rel => exact ⟨k + 1, by omega, by omega, by go_num, HW, (show Hid _ from by rw [HE.out]; exact HU.out)⟩
          · obtain ⟨a1, a2⟩ := nes10 e1
            have cg : (qk == s.data.toList) = false := by rw [← HTL.out]; simpa using e1
            have HE : Hid ((N.take (k + 1)).filter (fun x => !(x == s.data.toList)) = (N.take k).filter (fun x => !(x == s.data.toList)) ++ [qk]) := by
              show _ = _
              rw [HST.out, if_pos (by simp [cg])]
            clear cg e1
            go_wp2_with (first
            | (at_builtin; refine wpList_append_own _ rfl _ _ 27 rfl w3.heap.size 9 i0 (.string ⟨#[]⟩) 1 16 Try.underlying27 hi hz0 hz1 hz2 rfl (by decide) _ _ _ rfl (HU.out.alloc _) ⟨wr.heap.size, 0, none⟩ 1 1 [.string gm] rfl rfl (fun j u hu => by rw [Addr.add_lit, Nat.zero_add, World.cell?_alloc_at _ _ _ _ (by simp)]; simpa using hu) (by simp [Value.oneCell']) (by unfold maxLen; omega) (by omega) (by have := HW.out.size; simp; omega) ?_; intro v2 w2 hown' hgrow _; have HOw2 := Lib.hid hown'; have HGw2 := Lib.hid hgrow; clear hown' hgrow)
            | fail)
            have ho := HOw2.out
            rw [← HEG.out] at ho
            have R1 := Lib.hid (app10 HW.out HU.out HGw2.out)
            have R2 : Hid (w2.ownsRow w3.heap.size 9 1 v2 ((N.take (k + 1)).filter (fun x => !(x == s.data.toList))).length (((N.take (k + 1)).filter (fun x => !(x == s.data.toList))).map encStr)) := by
              show World.ownsRow _ _ _ _ _ _ _
              rw [HE.out]
              simpa using ho
            clear ho
            go_roundg (n1 - (k + 1))
            case measure => omega
            case rel => exact ⟨k + 1, by omega, by omega, by go_num, R1, R2⟩
        · have hltz : ¬ (k : Int) < (n1 : Int) := by omega
          obtain rfl : k = n1 := by omega
          have hu := HU.out
          rw [List.take_of_length_le (by have := HL1.out; omega)] at hu
          have HNM : Hid (NmR wr u6 (dropN N s.data.toList)) := NmR.of hu
          have HBW := Lib.hid (below_next HB3.out HW.out)
          have HX2 := Lib.hid (HBX3.out.later HW.out)
          have HY2 := Lib.hid (HR3.out.later HW.out)
          have k1 := HX2.out.c1
          obtain ⟨A6, c6, rfl⟩ := HNM.out.shape
          generalize (dropN N s.data.toList).length = q6 at *
          clear hu HW HU hlen
          go_wp2
          have HCW := HBW
          clear HBW
          generalize hwm : wr = w1 at *
          have HBW := HCW
          clear HCW hwm
          obtain ⟨i0, hi, hz0, hz1, hz2⟩ := info_parts infoMem10
          go_loopg [9, 40] n (fun gg sl si wr => ∃ k : Nat, k ≤ n ∧ n - k ≤ gg ∧ si = .int .i64 k ∧ Hid (Below w1.heap.size w1 wr) ∧ Hid (wr.ownsRow w1.heap.size 65 2 sl ((M.take k).filter (fun m => !(m.1 == s.data.toList))).length (((M.take k).filter (fun m => !(m.1 == s.data.toList))).flatMap pm10)))
          case atStart => exact ⟨0, Nat.zero_le _, by omega, rfl, Below.refl _ _, World.ownsRow_nil _ _ _ _⟩
          case round =>
            obtain ⟨k, hk, hg, rfl, HW, HU⟩ := hrel
            have hlen : ((M.take k).filter (fun m => !(m.1 == s.data.toList))).length ≤ n := Nat.le_trans (List.length_filter_le _ _) (by simp; omega)
            by_cases hlt : k < n
            · have hltz : (k : Int) < (n : Int) := by omega
              have hkl : k < M.length := HL.out ▸ hlt
              obtain ⟨gb, cx, e2, x0, x1⟩ := (HA.out.later (below_next HBW.out HW.out)).at_ hkl
              injection e2 with e2 e2n e2c
              subst e2
              clear e2n e2c
              have HST : Hid ((M.take (k + 1)).filter (fun m => !(m.1 == s.data.toList)) = (M.take k).filter (fun m => !(m.1 == s.data.toList)) ++ if (fun m => !(m.1 == s.data.toList)) M[k] then [M[k]] else []) := filter_snoc10 _ M hkl
              have HUV := Lib.hid (HU.out.alloc (.cells #[.string (tx10 M[k].1), .string (tx10 M[k].2)] 65))
              have HTL : Hid ((tx10 M[k].1).data.toList = M[k].1) := tx10_list _
              have HTM : Hid ((tx10 M[k].2).data.toList = M[k].2) := tx10_list _
              have HEG : Hid (encStr M[k].1 = .string (tx10 M[k].1)) := rfl
              have HEN : Hid (encStr M[k].2 = .string (tx10 M[k].2)) := rfl
              have HEV : Hid (pm10 M[k] = [.string (tx10 M[k].1), .string (tx10 M[k].2)]) := rfl
              generalize hMk : M[k] = qk at *
              generalize tx10 qk.1 = gm at *
              generalize tx10 qk.2 = nm at *
              clear hMk
              have HWV := Lib.hid (below_next HW.out (below_alloc (Below.refl wr.heap.size wr) (.cells #[.string gm, .string nm] 65)))
              by_cases e1 : gm.data.toList = s.data.toList
              · obtain ⟨a1, a2⟩ := eqs10 e1
                have cg : (qk.1 == s.data.toList) = true := by rw [← HTL.out]; simpa using e1
                have HE : Hid ((M.take (k + 1)).filter (fun m => !(m.1 == s.data.toList)) = (M.take k).filter (fun m => !(m.1 == s.data.toList))) := by
                  show _ = _
                  rw [HST.out, if_neg (by simp [cg]), List.append_nil]
                go_wp2
                go_roundg (n - (k + 1))
                case measure => omega
                case rel => exact ⟨k + 1, by omega, by omega, by go_num, HWV, (show Hid _ from by rw [HE.out]; exact HUV.out)⟩
              · obtain ⟨a1, a2⟩ := nes10 e1
                have cg : (qk.1 == s.data.toList) = false := by rw [← HTL.out]; simpa using e1
                have HE : Hid ((M.take (k + 1)).filter (fun m => !(m.1 == s.data.toList)) = (M.take k).filter (fun m => !(m.1 == s.data.toList)) ++ [qk]) := by
                  show _ = _
                  rw [HST.out, if_pos (by simp [cg])]
                go_wp2_with (first
                | (at_builtin; refine wpList_append_own _ rfl _ _ 28 rfl w1.heap.size 65 i0 (.agg #[.string ⟨#[]⟩, .string ⟨#[]⟩]) 2 32 Try.underlying28 hi hz0 hz1 hz2 rfl (by decide) _ _ _ rfl (HUV.out.alloc _) ⟨wr.heap.size + 1, 0, none⟩ 1 1 [.string gm, .string nm] rfl rfl (fun j u hu => by rw [Addr.add_lit, Nat.zero_add, World.cell?_alloc_at _ _ _ _ (by simp)]; simpa using hu) (by simp [Value.oneCell']) (by unfold maxLen; omega) (by omega) (by have := HW.out.size; simp; omega) ?_; intro v2 w2 hown' hgrow _; have HOw2 := Lib.hid hown'; have HGw2 := Lib.hid hgrow; clear hown' hgrow)
                | fail)
                have ho := HOw2.out
                rw [← HEV.out] at ho
                have R1 := Lib.hid (app10 HWV.out HUV.out HGw2.out)
                have R2 : Hid (w2.ownsRow w1.heap.size 65 2 v2 ((M.take (k + 1)).filter (fun m => !(m.1 == s.data.toList))).length (((M.take (k + 1)).filter (fun m => !(m.1 == s.data.toList))).flatMap pm10)) := by
                  show World.ownsRow _ _ _ _ _ _ _
                  rw [HE.out]
                  simpa using ho
                clear ho
                go_roundg (n - (k + 1))
                case measure => omega
                case rel => exact ⟨k + 1, by omega, by omega, by go_num, R1, R2⟩
            · have hltz : ¬ (k : Int) < (n : Int) := by omega
              obtain rfl : k = n := by omega
              have hu := HU.out
              rw [List.take_of_length_le (by have := HL.out; omega)] at hu
              have HML : Hid (MbR wr u9 (dropM M s.data.toList)) := MbR.of hu
              have HBR := Lib.hid (below_next HBW.out HW.out)
              have HNF := Lib.hid (HNM.out.later HW.out)
              have hr := HY2.out.later HW.out
              have r0 := hr.c0
              have r1 := hr.c1
              have rf0 := hr.f0
              have rf1 := hr.f1
              obtain ⟨AL, cL, rfl⟩ := HML.out.shape
              generalize (dropM M s.data.toList).length = q at *
              have HF := Lib.hid (fin2 HBR.out hr (Nat.le_succ _) (.slice A6 q6 c6) (.slice AL q cL))
              clear hu hr HU
              go_wp2
              have z0 := HF.out.1.c0
              have z1 := HF.out.1.c1
              refine bodyPost_ret (v := .tuple #[.agg #[.slice A6 q6 c6, .slice AL q cL], .int .i64 0]) ?_ rfl ⟨_, _, rfl, HNF.out.keepG HF.out.2.2, HML.out.keepG HF.out.2.2, HF.out.2.1⟩
              simp [results, Try.results24, go_sem, z0, z1]
set_option maxRecDepth 100000 in
set_option maxHeartbeats 4000000 in
theorem rremove10_calls (v1 v2 : Value) (N : List (List UInt8)) (M : List Who10) (s : ByteArray) (w : World) (hM : M.length ≤ 900) (h1 : NmR w v1 N) (h2 : MbR w v2 M) :
    Calls Try.prog 29 #[.agg #[v1, v2], .string s] w (Doc10 ((sortT (ofM M s.data.toList)).length : Nat) N (rmM M s.data.toList) w) := by
  obtain ⟨A1, c1, rfl⟩ := h1.shape
  obtain ⟨A, c, rfl⟩ := h2.shape
  have hb0 : Below w.heap.size w (w.alloc (.cells #[.slice A1 N.length c1, .slice A M.length c] TG)) := below_alloc (Below.refl _ _) _
  have hbx : Bx10 (w.alloc (.cells #[.slice A1 N.length c1, .slice A M.length c] TG)) w.heap.size (.slice A1 N.length c1) (.slice A M.length c) := bx10_new _ _ _
  have HN1 := Lib.hid h1
  have HA := Lib.hid h2
  have HB0 := Lib.hid hb0
  have HBX := Lib.hid hbx
  clear h1 h2 hb0 hbx
  obtain ⟨n1, hn1⟩ : ∃ n1, n1 = N.length := ⟨_, rfl⟩
  obtain ⟨n, hn⟩ : ∃ n, n = M.length := ⟨_, rfl⟩
  rw [← hn1] at HN1 HB0 HBX ⊢
  rw [← hn] at HA HB0 HBX hM ⊢
  have HL1 := Lib.hid hn1
  have HL := Lib.hid hn
  clear hn hn1

  have HR0 : Hid (Bx10 ((w.alloc (.cells #[.slice A1 n1 c1, .slice A n c] TG)).alloc (.cells #[.slice none 0 0, .slice none 0 0] TG)) (w.heap.size + 1) (.slice none 0 0) (.slice none 0 0)) := by
    have := bx10_new (w.alloc (.cells #[.slice A1 n1 c1, .slice A n c] TG)) (.slice none 0 0) (.slice none 0 0)
    rwa [World.size_alloc] at this
  have HBX2 : Hid (Bx10 ((w.alloc (.cells #[.slice A1 n1 c1, .slice A n c] TG)).alloc (.cells #[.slice none 0 0, .slice none 0 0] TG)) w.heap.size (.slice A1 n1 c1) (.slice A n c)) := HBX.out.later (below_alloc (Below.refl _ _) _)
  have HB2 : Hid (Below w.heap.size w ((w.alloc (.cells #[.slice A1 n1 c1, .slice A n c] TG)).alloc (.cells #[.slice none 0 0, .slice none 0 0] TG))) := below_next HB0.out (below_alloc (Below.refl _ _) _)
  have HOF : Hid (∀ W, Below w.heap.size w W → Calls Try.prog 15 #[.agg #[.slice A1 n1 c1, .slice A n c], .string s] W (Names10 (sortT (ofM M s.data.toList)) W)) := fun W hb => rof10_calls _ _ N M s W (by have := HL.out; omega) (HN1.out.later hb) (HA.out.later hb)
  have HWO : Hid (∀ (u : Value) (M' : List Who10) (g : ByteArray) (W : World), M'.length ≤ 900 → NmR W (.slice A1 n1 c1) N → MbR W u M' → Calls Try.prog 42 #[.agg #[.slice A1 n1 c1, u], .string g, .string s] W fun e w' => ∃ v, e = .returned (.agg #[.slice A1 n1 c1, v]) ∧ MbR w' v (outM M' g.data.toList s.data.toList) ∧ Below W.heap.size W w') := fun u M' g W h1 h2 h3 => rwithout10_calls _ u N M' g s W h1 h2 h3
  unfold rmM
  have hLl : (sortT (ofM M s.data.toList)).length ≤ 900 := Nat.le_trans (sortT_le _) (Nat.le_trans (ofM_le _ _) (by have := HL.out; omega))
  generalize sortT (ofM M s.data.toList) = L at *
  go_enter Try.func29, Try.ntmps29
  go_wp2_with fail
  generalize (w.alloc (.cells #[.slice A1 n1 c1, .slice A n c] TG)).alloc (.cells #[.slice none 0 0, .slice none 0 0] TG) = w1 at *
  have HO1 := Lib.hid (HOF.out w1 HB2.out)
  have k0 := HBX2.out.c0
  have k1 := HBX2.out.c1
  clear HOF
  go_wp2_with fail
  with_reducible refine HO1.out.mono ?_
  rintro e w2 ⟨vl, rfl, hr, hb⟩
  have HLR : Hid (NmR w2 vl L) := NmR.of hr
  obtain ⟨AL, cL, rfl⟩ := HLR.out.shape
  have HB3 := Lib.hid (below_next HB2.out hb)
  have HX2 := Lib.hid (HBX2.out.later hb)
  have HY2 := Lib.hid (HR0.out.later hb)
  have HA2 := Lib.hid (HA.out.later HB3.out)
  have HN2 := Lib.hid (HN1.out.later HB3.out)
  obtain ⟨q, hq⟩ : ∃ q, q = L.length := ⟨_, rfl⟩
  rw [← hq] at HLR hLl ⊢
  have HQ := Lib.hid hq
  clear hq hr hb HO1 k0 k1
  go_wp2
  go_loopg [14] q (fun gg si wr => ∃ (k : Nat) (A5 : Option Addr) (n5 c5 : Nat), k ≤ q ∧ q - k ≤ gg ∧ si = .int .i64 k ∧ Hid (Below w.heap.size w wr) ∧ Hid (Bx10 wr w.heap.size (.slice A1 n1 c1) (.slice A5 n5 c5)) ∧ Hid (Bx10 wr (w.heap.size + 1) (.slice none 0 0) (.slice none 0 0)) ∧ Hid (NmR wr (.slice A1 n1 c1) N) ∧ Hid (NmR wr (.slice AL q cL) L) ∧ Hid (MbR wr (.slice A5 n5 c5) ((L.take k).foldl (fun m g => outM m g s.data.toList) M)))
  case atStart => exact ⟨0, A, n, c, Nat.zero_le _, by omega, rfl, HB3, HX2, HY2, HN2, HLR, HA2⟩
  case round =>
    obtain ⟨k, A5, n5, c5, hk, hg, rfl, HB, HX, HY, HNR, HLL, HMR⟩ := hrel
    by_cases hlt : k < q
    · have hltz : (k : Int) < (q : Int) := by omega
      have hkl : k < L.length := HQ.out ▸ hlt
      obtain ⟨gb, cx, e2, x0⟩ := HLL.out.at_ hkl
      injection e2 with e2 e2n e2c
      subst e2
      clear e2n e2c
      have hfl : ((L.take k).foldl (fun m g => outM m g s.data.toList) M).length ≤ 900 := by
        have : ∀ (gs : List (List UInt8)) (M : List Who10), (gs.foldl (fun m g => outM m g s.data.toList) M).length ≤ M.length := fun gs => by
          induction gs with
          | nil => intro M; exact Nat.le_refl _
          | cons g r ih => intro M; exact Nat.le_trans (ih (outM M g s.data.toList)) (outM_le M g _)
        have h2 := this (L.take k) M
        have := HL.out
        omega
      have HWK := Lib.hid (HWO.out _ _ (tx10 L[k]) wr hfl HNR.out HMR.out)
      have HST : Hid ((L.take (k + 1)).foldl (fun m g => outM m g s.data.toList) M = outM ((L.take k).foldl (fun m g => outM m g s.data.toList) M) (tx10 L[k]).data.toList s.data.toList) := by
        show _ = _
        rw [List.take_succ_eq_append_getElem hkl, List.foldl_append, tx10_list]
        rfl
      generalize tx10 L[k] = gm at *
      clear hfl hkl
      have k0 := HX.out.c0
      have k1 := HX.out.c1
      go_wp2_with fail
      with_reducible refine HWK.out.mono ?_
      rintro e w5 ⟨u5, rfl, hm5, hb5⟩
      obtain ⟨A7, c7, rfl⟩ := hm5.shape
      have hx := HX.out.later hb5
      have j0 := hx.c0
      have j1 := hx.c1
      have jf0 := hx.f0
      have jf1 := hx.f1
      obtain ⟨q7, hq7⟩ : ∃ q7, q7 = (outM ((L.take k).foldl (fun m g => outM m g s.data.toList) M) gm.data.toList s.data.toList).length := ⟨_, rfl⟩
      rw [← hq7] at hm5 ⊢
      have hf := fin2 (below_next HB.out hb5) hx (Nat.le_refl _) (.slice A1 n1 c1) (.slice A7 q7 c7)
      have HF := Lib.hid hf
      have R3 := Lib.hid (Bx10.other (c := w.heap.size) (i := 1) (Bx10.other (c := w.heap.size) (i := 0) (HY.out.later hb5) (by omega) (.slice A1 n1 c1)) (by omega) (.slice A7 q7 c7))
      have R4 := Lib.hid ((HNR.out.later hb5).keepG hf.2.2)
      have R5 := Lib.hid ((HLL.out.later hb5).keepG hf.2.2)
      have R6 : Hid (MbR ((w5.setCell ⟨w.heap.size, 0, none⟩ (.slice A1 n1 c1)).setCell ⟨w.heap.size, 1, none⟩ (.slice A7 q7 c7)) (.slice A7 q7 c7) ((L.take (k + 1)).foldl (fun m g => outM m g s.data.toList) M)) := by
        show MbR _ _ _
        rw [HST.out]
        exact hm5.keepG hf.2.2
      clear hx hf hb5 hm5 hq7 HWK HX HY HNR HLL HMR HB
      go_wp2
      go_roundg (q - (k + 1))
      case measure => omega
      case rel => exact ⟨k + 1, A7, q7, c7, by omega, by omega, by go_num, HF.out.2.1, HF.out.1, R3, R4, R5, R6⟩
    · have hltz : ¬ (k : Int) < (q : Int) := by omega
      obtain rfl : k = q := by omega
      have hm := HMR.out
      rw [List.take_of_length_le (by have := HQ.out; omega)] at hm
      have HML := Lib.hid hm
      have k0 := HX.out.c0
      have k1 := HX.out.c1
      have r0 := HY.out.c0
      have r1 := HY.out.c1
      have rf0 := HY.out.f0
      have rf1 := HY.out.f1
      have HF := Lib.hid (fin2 HB.out HY.out (Nat.le_succ _) (.slice A1 n1 c1) (.slice A5 n5 c5))
      clear hm HMR
      go_wp2
      have z0 := HF.out.1.c0
      have z1 := HF.out.1.c1
      refine bodyPost_ret (v := .tuple #[.agg #[.slice A1 n1 c1, .slice A5 n5 c5], (.int .i64 k)]) ?_ rfl ⟨_, _, by rw [← HQ.out], HNR.out.keepG HF.out.2.2, HML.out.keepG HF.out.2.2, HF.out.2.1⟩
      simp [results, Try.results29, go_sem, z0, z1]
end Go.Proofs.Ytmjmglakpnjfkaa

/-
  Who is removed is in no group; a group that is dropped and made again has no members; who is renamed is where it was: the law's walk.
  Conditions: none beyond the law's own.
-/
import Derived.Test.YtmjmglakpnjfkaaGroupLoop
namespace Go.Proofs.Ytmjmglakpnjfkaa
open Go.RowKit Go.Maps

theorem of10_empty {S : Grs10} {n : List UInt8} (hr : RiseV S) (h : ∀ g ∈ names10 S, in10 S g n = false) : of10 S n = [] := by
  refine List.eq_nil_iff_forall_not_mem.2 fun g hg => ?_
  have h1 := h g (of10_sub hg)
  rw [of10_mem hr, h1] at hg
  cases hg
theorem hasT_of {S : Grs10} (hr : RiseV S) (n g : List UInt8) : hasT (of10 S n) g = in10 S g n := by
  rw [Bool.eq_iff_iff, hasT_iff, of10_mem hr]

set_option maxRecDepth 100000 in
set_option maxHeartbeats 16000000 in
theorem gone10_walk (A : Option Addr) (c n : Nat) (l : List Act7) (p : ByteArray) (q : ByteArray) (w : World) (hl : n = l.length) (hn : n ≤ 9223372036854775807) (hr : RdA7 w A l) :
    Calls Try.prog 5 #[.slice A n c, .string p, .string q] w (Tells5 true w) := by
  have HV : Hid (∀ W, Calls Try.prog 6 #[] W (Tells5 true W)) := lives10_calls
  have HNW : Hid (∀ W, Calls Try.prog 8 #[] W fun e w' => e = .returned (.pointer (some ⟨W.heap.size, 0, none⟩)) ∧ w' = W.alloc (.cells #[.map none] 53)) := new10_calls
  have HF : Hid (∀ W, Below w.heap.size w W → Calls Try.prog 7 #[.slice A n c] W (Tells5 (few10 l) W)) := fun W hb => few10_calls A c n l W hl hn (hr.later hb)
  have HFW : Hid (few10 l = true → n ≤ 60 ∧ ∀ t ∈ l, t.nm.size ≤ 50 ∧ t.hs.size ≤ 50) := fun h => ⟨by rw [hl]; exact few10_len h, few10_size h⟩
  have HR := Lib.hid hr
  have HL := Lib.hid hl
  clear hr hl
  generalize few10 l = fw at *
  go_enter Try.func5, Try.ntmps5
  go_wp2_with fail
  with_reducible refine (HV.out w).mono ?_
  rintro e w1 ⟨rfl, hb⟩
  have HB1 := Lib.hid hb
  clear hb
  go_wp2_with fail
  with_reducible refine (HF.out w1 HB1.out).mono ?_
  rintro e w2 ⟨rfl, hb⟩
  have HB2 := Lib.hid (below_next HB1.out hb)
  clear hb HF HB1
  have BAD : Hid (∀ W, Below w.heap.size w W → Calls Try.prog 6 #[] W fun e w' => e = .returned (.bool true) ∧ Hid (Below w.heap.size w w')) := fun W hb => (HV.out W).mono fun e w' ⟨he, hb'⟩ => ⟨he, below_next hb hb'⟩
  clear HV
  cases fw with
  | false =>
    go_wp2_with fail
    with_reducible refine (BAD.out w2 HB2.out).mono ?_
    rintro e w3 ⟨rfl, HB3⟩
    go_wp2
    go_ret
    exact ⟨rfl, HB3.out⟩
  | true =>
  obtain ⟨hn60, hsz⟩ := HFW.out rfl
  have HSZ := Lib.hid hsz
  clear HFW hsz
  by_cases hp0 : p.size ≤ 50
  case neg =>
    have z : (p.size : Int) > 50 := by omega
    have z' : 50 < p.size := by omega
    have z2 : decide ((p.size : Int) > 50) = true := decide_eq_true z
    go_wp2_with fail
    with_reducible refine (BAD.out w2 HB2.out).mono ?_
    rintro e w3 ⟨rfl, HB3⟩
    go_wp2
    go_ret
    exact ⟨rfl, HB3.out⟩
  by_cases hp1 : q.size ≤ 50
  case neg =>
    have y0 : ¬ (p.size : Int) > 50 := by omega
    have y0' : ¬ 50 < p.size := by omega
    have y02 : decide ((p.size : Int) > 50) = false := decide_eq_false y0
    have z : (q.size : Int) > 50 := by omega
    have z' : 50 < q.size := by omega
    have z2 : decide ((q.size : Int) > 50) = true := decide_eq_true z
    go_wp2_with fail
    with_reducible refine (BAD.out w2 HB2.out).mono ?_
    rintro e w3 ⟨rfl, HB3⟩
    go_wp2
    go_ret
    exact ⟨rfl, HB3.out⟩
  have y0 : ¬ (p.size : Int) > 50 := by omega
  have y0' : ¬ 50 < p.size := by omega
  have y02 : decide ((p.size : Int) > 50) = false := decide_eq_false y0
  have y1 : ¬ (q.size : Int) > 50 := by omega
  have y1' : ¬ 50 < q.size := by omega
  have y12 : decide ((q.size : Int) > 50) = false := decide_eq_false y1
  clear BAD
  go_wp2_with fail
  with_reducible refine (HNW.out w2).mono ?_
  rintro e w3 ⟨rfl, rfl⟩
  have HO := Lib.hid (own10_new w2)
  have HZB : Hid (w2.heap.size ≤ (w2.alloc (.cells #[.map none] 53)).heap.size) := by show _ ≤ _; simp
  generalize w2.alloc (.cells #[.map none] 53) = w3 at *
  generalize w2.heap.size = B at HO ⊢
  clear HNW y0 y0' y02 y1 y1' y12
  have HL0 : Hid (Loop10 w2 B w3.heap.size 0 (w3.alloc (.cells #[.slice none 0 0, .slice none 0 0] TG))) := by
    have hb := below_alloc (Below.refl w3.heap.size w3) (.cells #[.slice none 0 0, .slice none 0 0] TG)
    exact ⟨[], [], [], none, 0, none, 0, HO.out.later hb, bx10_new _ _ _, NmR.nil _, MbR.nil _, Rel10.nil, Nat.le_refl _⟩
  clear HO
  go_wp2
  generalize w3.alloc (.cells #[.slice none 0 0, .slice none 0 0] TG) = w4 at *
  generalize w3.heap.size = Wb at *
  go_loopg [38] n (fun gg s38 wr => ∃ k : Nat, k ≤ n ∧ n - k ≤ gg ∧ s38 = .int .i64 k ∧ Hid (Loop10 w2 B Wb k wr))
  case atStart => exact ⟨0, Nat.zero_le _, by omega, rfl, HL0⟩
  case round =>
    obtain ⟨k, hk, hg, rfl, HW⟩ := hrel
    by_cases hlt : k < n
    · have hltz : (k : Int) < (n : Int) := by omega
      have hkl : k < l.length := HL.out ▸ hlt
      obtain ⟨S, N, M, A1, C1, A2, C2, ho, hx, hn1, hm1, hrl, hml⟩ := HW.out
      obtain ⟨b, off, rfl, hb, hc⟩ := (HR.out.later (below_next HB2.out ho.below)) (by intro e; rw [e] at hkl; exact absurd hkl (Nat.not_lt_zero _))
      have c0 : wr.cell? ⟨b, off + k * 3, none⟩ = some (.int .u8 (l[k].kd : Int)) := hc k hkl 0 _ rfl
      have c1 : wr.cell? ⟨b, off + k * 3 + 1, none⟩ = some (.string l[k].nm) := hc k hkl 1 _ rfl
      have c2 : wr.cell? ⟨b, off + k * 3 + 2, none⟩ = some (.string l[k].hs) := hc k hkl 2 _ rfl
      have hbv := below_alloc (Below.refl wr.heap.size wr) (.cells #[.int .u8 (l[k].kd : Int), .string l[k].nm, .string l[k].hs] 32)
      have HDO := Lib.hid (do10_calls w2 B S k _ _ N M l[k].kd l[k].nm l[k].hs _ (ho.later hbv) (by omega) (hn1.later hbv) (hm1.later hbv) hrl (by omega) (HSZ.out _ (List.getElem_mem hkl)).1 (HSZ.out _ (List.getElem_mem hkl)).2)
      have HXV := Lib.hid (hx.later hbv)
      have HAV := Lib.hid (actat10_new wr l[k].kd l[k].nm l[k].hs)
      have HML := Lib.hid hml
      have HS5 := Lib.hid (HSZ.out _ (List.getElem_mem hkl))
      have x0 := hx.c0
      have x1 := hx.c1
      have xl := hx.lt
      clear hc hb ho hx hn1 hm1 hrl hml hbv HW
      generalize l[k].kd = kd at *
      generalize l[k].nm = nm at *
      generalize l[k].hs = hs at *
      clear hkl
      go_wp2_with fail
      with_reducible refine HDO.out.mono ?_
      rintro e w5 ⟨S5, N5, M5, v1, v2, rfl, ho5, hn5, hm5, hr5, hl5, hk5⟩
      obtain ⟨A5, C5, rfl⟩ := hn5.shape
      obtain ⟨A6, C6, rfl⟩ := hm5.shape
      have hx5 := HXV.out.keeps hk5
      have r0 := hx5.c0
      have r1 := hx5.c1
      have rf0 := hx5.f0
      have rf1 := hx5.f1
      have HLN : Hid (Loop10 w2 B Wb (k + 1) ((w5.setCell ⟨Wb, 0, none⟩ (.slice A5 N5.length C5)).setCell ⟨Wb, 1, none⟩ (.slice A6 M5.length C6))) := loop10_next HXV.out HZB.out hk5 ho5 hn5 hm5 hr5 hl5 HML.out

      clear ho5 hn5 hm5 hr5 hl5 hk5 hx5 HXV HDO HAV HML x0 x1 xl c0 c1 c2
      generalize List.length N5 = nn5 at *
      generalize List.length M5 = nm5 at *
      go_wp2
      go_roundg (n - (k + 1))
      case measure => omega
      case rel => exact ⟨k + 1, by omega, by omega, by go_num, HLN⟩
    · have hltz : ¬ (k : Int) < (n : Int) := by omega
      obtain rfl : k = n := by omega
      obtain ⟨S, N, M, A1, C1, A2, C2, ho, _⟩ := HW.out
      have HGS := Lib.hid ho.good
      have HOF := Lib.hid (ho.of_ p (by omega))
      have HOW := Lib.hid ho
      have hol : (of10 S p.data.toList).length ≤ 1000 := Nat.le_trans (of10_le _ _) (Nat.le_trans ho.good.few (by decide))
      clear ho HW HL0 HR HL HSZ
      have HW : Hid True := trivial
      go_wp2_with fail
      with_reducible refine HOF.out.mono ?_
      rintro e w5 ⟨v5, rfl, hr5, hb5⟩
      have HWAS : Hid (NmR w5 v5 (of10 S p.data.toList)) := NmR.of hr5
      obtain ⟨A5, C5, rfl⟩ := HWAS.out.shape
      have HRN := Lib.hid ((HOW.out.later hb5).rename (by omega) p q (by omega) (by omega))
      clear hr5 hb5 HOF HOW
      by_cases hE : reE10 S p.data.toList q.data.toList = 0
      · have HRQ := Lib.hid (renamed10 HGS.out hE)
        have HRO := Lib.hid (fun h => renamed10_old HGS.out hE h)
        rw [hE] at HRN
        clear hE
        generalize reS10 S p.data.toList q.data.toList = S1 at *
        generalize of10 S p.data.toList = ls0 at *
        go_wp2_with fail
        with_reducible refine HRN.out.mono ?_
        rintro e w6 ⟨rfl, ho6, hk6⟩
        have HO6 := Lib.hid ho6
        have HW6 := Lib.hid (HWAS.out.keeps hk6)
        have HOQ := Lib.hid (ho6.of_ q (by omega))
        rw [HRQ.out] at HOQ
        clear ho6 hk6 HRN HWAS
        go_wp2_with fail
        with_reducible refine HOQ.out.mono ?_
        rintro e w7 ⟨v7, rfl, hr7, hb7⟩
        have hr7' : NmR w7 v7 ls0 := NmR.of hr7
        obtain ⟨A7, C7, rfl⟩ := hr7'.shape
        have HST := Lib.hid (samet10_calls _ _ ls0 w7 hr7' (HW6.out.later hb7) hol)
        have HO7 := Lib.hid (HO6.out.later hb7)
        clear hr7 hr7' hb7 HOQ HO6 HW6
        generalize List.length ls0 = nls at *
        go_wp2_with fail
        with_reducible refine HST.out.mono ?_
        rintro e w8 ⟨rfl, hb8⟩
        have HO8 := Lib.hid (HO7.out.later hb8)
        clear hb8 HST HO7
        by_cases e : p.data.toList = q.data.toList
        · obtain ⟨b1, b2⟩ := eqs10 e
          have HOS := HO8
          clear e HRO
          have hpq : ∀ x : ByteArray, x = x := fun _ => rfl
          have HAL := Lib.hid HOS.out.all_
          have HGD : Hid (Good10 S1 k) := HOS.out.good
          clear HW
          go_wp2_with fail
          with_reducible refine HAL.out.mono ?_
          rintro e w10 ⟨va, rfl, hra, hba⟩
          have HLR : Hid (NmR w10 va (names10 S1)) := NmR.of hra
          have HOS2 := Lib.hid (HOS.out.later hba)
          clear hra hba HAL HOS
          obtain ⟨L, hL⟩ : ∃ L, names10 S1 = L := ⟨_, rfl⟩
          rw [hL] at HLR
          have HLE := Lib.hid hL
          have hLl : L.length ≤ 6 := by rw [← hL, names10_length]; exact HGD.out.few
          have HLZ : Hid (∀ g ∈ L, (tx10 g).size ≤ 9223372036854775807) := fun g hg => by
            rw [← hL] at hg
            obtain ⟨x, hx, rfl⟩ := List.mem_map.1 hg
            rw [tx10_size]
            exact Nat.le_trans (name10_len (HGD.out.named x hx)) (by decide)
          clear hL
          obtain ⟨AL, CL, rfl⟩ := HLR.out.shape
          obtain ⟨m, hm⟩ : ∃ m, m = L.length := ⟨_, rfl⟩
          rw [← hm] at HLR hLl ⊢
          have HM := Lib.hid hm
          clear hm
          go_wp2
          go_loopg [80] m (fun gg s80 wr => ∃ j : Nat, j ≤ m ∧ m - j ≤ gg ∧ s80 = .int .i64 j ∧ Hid (∃ Sj, Own10 w2 wr B Sj k ∧ names10 Sj = L ∧ ∀ g ∈ L.take j, in10 Sj g q.data.toList = false) ∧ Hid (NmR wr (.slice AL m CL) L))
          case atStart => exact ⟨0, Nat.zero_le _, by omega, rfl, ⟨S1, HOS2.out, HLE.out, fun _ h => by simp at h⟩, HLR⟩
          case round =>
            obtain ⟨j, hj, hg, rfl, HW2, HRW⟩ := hrel
            by_cases hlt : j < m
            · have hltz : (j : Int) < (m : Int) := by omega
              have hjl : j < L.length := HM.out ▸ hlt
              obtain ⟨gb, cx, e2, x0⟩ := HRW.out.at_ hjl
              injection e2 with e2 e2n e2c
              subst e2
              clear e2n e2c
              obtain ⟨Sj, hoj, hnj, hij⟩ := HW2.out
              have hgj := hoj.good
              have HOFJ := Lib.hid (hoj.of_ q (by omega))
              have HOJ := Lib.hid hoj
              have hxm : L[j] ∈ names10 Sj := by rw [hnj]; exact List.getElem_mem hjl
              have HDE : Hid (drE10 Sj (tx10 L[j]).data.toList = 0) := by show _ = _; rw [tx10_list]; exact drE10_named hgj hxm
              have hag := again10 hgj hxm
              have HME : Hid (maE10 (drS10 Sj (tx10 L[j]).data.toList) (tx10 L[j]).data.toList = 0) := by show _ = _; rw [tx10_list]; exact hag.1
              have HNX : Hid (names10 (maS10 (drS10 Sj (tx10 L[j]).data.toList) (tx10 L[j]).data.toList) = L ∧ ∀ g ∈ L.take (j + 1), in10 (maS10 (drS10 Sj (tx10 L[j]).data.toList) (tx10 L[j]).data.toList) g q.data.toList = false) := by
                rw [tx10_list]
                refine ⟨hag.2.1.trans hnj, fun g hg => ?_⟩
                rw [List.take_succ_eq_append_getElem hjl] at hg
                cases hh : in10 (maS10 (drS10 Sj L[j]) L[j]) g q.data.toList
                · rfl
                · obtain ⟨h1, h2⟩ := (hag.2.2 g q.data.toList).1 hh
                  rcases List.mem_append.1 hg with hg | hg
                  · rw [hij g hg] at h1; cases h1
                  · exact absurd (by simpa using hg) h2
              have HNO : Hid (hasT (of10 Sj q.data.toList) (tx10 L[j]).data.toList = false → ∀ g ∈ L.take (j + 1), in10 Sj g q.data.toList = false) := fun hh g hg => by
                rw [tx10_list, hasT_of hgj.rise] at hh
                rw [List.take_succ_eq_append_getElem hjl] at hg
                rcases List.mem_append.1 hg with hg | hg
                · exact hij g hg
                · have : g = L[j] := by simpa using hg
                  rw [this]; exact hh
              have HXZ := Lib.hid (HLZ.out _ (List.getElem_mem hjl))
              have hol : (of10 Sj q.data.toList).length ≤ 1000 := Nat.le_trans (of10_le _ _) (Nat.le_trans hgj.few (by decide))
              have HNJ := Lib.hid hnj
              clear hag hxm hij hgj hoj HW2 hnj
              generalize tx10 L[j] = xs at *
              clear hjl
              go_wp2_with fail
              with_reducible refine HOFJ.out.mono ?_
              rintro e w11 ⟨vo, rfl, hro, hbo⟩
              have hro' : NmR w11 vo (of10 Sj q.data.toList) := NmR.of hro
              have HHX := Lib.hid (lhas10_calls vo _ xs w11 hol hro')
              obtain ⟨AO, CO, rfl⟩ := hro'.shape
              have HO11 := Lib.hid (HOJ.out.later hbo)
              have HR11 := Lib.hid (HRW.out.later hbo)
              clear hro hro' hbo HOFJ hol
              cases hh : hasT (of10 Sj q.data.toList) xs.data.toList with
              | false =>
                rw [hh] at HHX
                have HNO2 := Lib.hid (HNO.out hh)
                clear hh HNO HNX HDE HME
                go_wp2_with fail
                with_reducible refine HHX.out.mono ?_
                rintro e w12 ⟨rfl, hb⟩
                have HO12 : Hid (∃ Sj, Own10 w2 w12 B Sj k ∧ names10 Sj = L ∧ ∀ g ∈ L.take (j + 1), in10 Sj g q.data.toList = false) := ⟨Sj, HO11.out.later hb, HNJ.out, HNO2.out⟩
                have HR12 := Lib.hid (HR11.out.later hb)
                clear hb HHX
                go_wp2
                go_roundg (m - (j + 1))
                case measure => omega
                case rel => exact ⟨j + 1, by omega, by omega, by go_num, HO12, HR12⟩
              | true =>
                rw [hh] at HHX
                clear hh HNO
                go_wp2_with fail
                with_reducible refine HHX.out.mono ?_
                rintro e w12 ⟨rfl, hb⟩
                have HDR := Lib.hid ((HO11.out.later hb).drop xs HXZ.out)
                have HR12 := Lib.hid (HR11.out.later hb)
                rw [HDE.out] at HDR
                clear hb HHX
                go_wp2_with fail
                with_reducible refine HDR.out.mono ?_
                rintro e w13 ⟨rfl, ho13, hk13⟩
                have HMK := Lib.hid (ho13.make xs HXZ.out)
                rw [HME.out] at HMK
                have HR13 := Lib.hid (HR12.out.keeps hk13)
                clear ho13 hk13 HDR
                go_wp2_with fail
                with_reducible refine HMK.out.mono ?_
                rintro e w14 ⟨rfl, ho14, hk14⟩
                have HO14 : Hid (∃ Sj, Own10 w2 w14 B Sj k ∧ names10 Sj = L ∧ ∀ g ∈ L.take (j + 1), in10 Sj g q.data.toList = false) := ⟨_, ho14, HNX.out⟩
                have HR14 := Lib.hid (HR13.out.keeps hk14)
                clear ho14 hk14 HMK
                go_wp2
                go_roundg (m - (j + 1))
                case measure => omega
                case rel => exact ⟨j + 1, by omega, by omega, by go_num, HO14, HR14⟩
            · have hltz : ¬ (j : Int) < (m : Int) := by omega
              obtain rfl : j = m := by omega
              obtain ⟨Se, hoe, hne, hie⟩ := HW2.out
              have hge := hoe.good
              have hem : of10 Se q.data.toList = [] := of10_empty hge.rise (fun g hg => hie g (by rw [hne] at hg; rw [List.take_of_length_le (by have := HM.out; omega)]; exact hg))
              have HOFE := Lib.hid (hoe.of_ q (by omega))
              have HOE := Lib.hid hoe
              rw [hem] at HOFE
              have HN3 : Hid (names10 (rmS10 Se q.data.toList) = L) := (map_names (fun l : Set10 => delV l q.data.toList) Se).trans hne
              have HO3 : Hid (of10 (rmS10 Se q.data.toList) q.data.toList = []) := removed10 hge.rise _
              have HEM := Lib.hid hem
              clear hem hge hoe hne hie HW2 HRW HLR HLE HGD HOS2
              go_wp2_with fail
              with_reducible refine HOFE.out.mono ?_
              rintro e w15 ⟨v15, rfl, hr15, hb15⟩
              obtain ⟨A15, C15, rfl⟩ := row10_shape hr15
              have HRM := Lib.hid ((HOE.out.later hb15).remove q (by omega))
              rw [HEM.out] at HRM
              clear hr15 hb15 HOFE HOE
              go_wp2_with fail
              with_reducible refine HRM.out.mono ?_
              rintro e w16 ⟨rfl, ho16, _⟩
              have HO16 := Lib.hid ho16
              have HAL3 := Lib.hid ho16.all_
              rw [HN3.out] at HAL3
              clear ho16 HRM
              go_wp2_with fail
              with_reducible refine HAL3.out.mono ?_
              rintro e w17 ⟨v17, rfl, hr17, hb17⟩
              have HLR : Hid (NmR w17 v17 L) := NmR.of hr17
              have HO17 := Lib.hid (HO16.out.later hb17)
              clear hr17 hb17 HAL3 HO16
              obtain ⟨A17, C17, rfl⟩ := HLR.out.shape
              rw [← HM.out] at HLR ⊢
              generalize rmS10 Se q.data.toList = S3 at *
              go_wp2
              go_loopg [14, 116] j (fun gg s14 s116 wr => ∃ i ct : Nat, i ≤ j ∧ j - i ≤ gg ∧ s116 = .int .i64 i ∧ s14 = .int .i64 ct ∧ ct ≤ i ∧ Hid (∃ Si, Own10 w2 wr B Si (k + i) ∧ names10 Si = L ∧ (of10 Si q.data.toList).length = ct) ∧ Hid (NmR wr (.slice A17 j C17) L))
              case atStart => exact ⟨0, 0, Nat.zero_le _, by omega, rfl, rfl, Nat.le_refl _, ⟨S3, HO17.out, HN3.out, by rw [HO3.out]; rfl⟩, HLR⟩
              case round =>
                obtain ⟨i, ct, hi, hg, rfl, rfl, hct, HW3, HRW⟩ := hrel
                by_cases hlt : i < j
                · have hltz : (i : Int) < (j : Int) := by omega
                  have hil : i < L.length := HM.out ▸ hlt
                  obtain ⟨gb, cx, e2, x0⟩ := HRW.out.at_ hil
                  injection e2 with e2 e2n e2c
                  subst e2
                  clear e2n e2c
                  obtain ⟨Si, hoi, hni, hci⟩ := HW3.out
                  have hgi := hoi.good
                  have HJN := Lib.hid (hoi.join (by omega) (tx10 L[i]) q (HLZ.out _ (List.getElem_mem hil)) (by omega))
                  have HNI : Hid (names10 (joS10 Si (tx10 L[i]).data.toList q.data.toList) = L) := (joS10_names _ _).trans hni
                  have HC0 : Hid (joE10 Si (tx10 L[i]).data.toList q.data.toList = 0 → (of10 (joS10 Si (tx10 L[i]).data.toList q.data.toList) q.data.toList).length = ct + 1) := fun h => by rw [joined10 hgi h, hci]
                  have HC1 : Hid (¬ joE10 Si (tx10 L[i]).data.toList q.data.toList = 0 → (of10 (joS10 Si (tx10 L[i]).data.toList q.data.toList) q.data.toList).length = ct) := fun h => by
                    unfold joS10
                    rw [if_neg h, hci]
                  clear hgi hoi hni hci HW3
                  generalize joS10 Si (tx10 L[i]).data.toList q.data.toList = S4 at *
                  generalize joE10 Si (tx10 L[i]).data.toList q.data.toList = r4 at *
                  generalize tx10 L[i] = xs at *
                  clear hil
                  go_wp2_with fail
                  with_reducible refine HJN.out.mono ?_
                  rintro e w18 ⟨rfl, ho18, hk18⟩
                  have HR18 := Lib.hid (HRW.out.keeps hk18)
                  by_cases h4 : r4 = 0
                  · have HO18 : Hid (∃ Si, Own10 w2 w18 B Si (k + (i + 1)) ∧ names10 Si = L ∧ (of10 Si q.data.toList).length = ct + 1) := ⟨S4, ho18, HNI.out, HC0.out h4⟩
                    clear ho18 hk18 HJN HC0 HC1
                    subst h4
                    go_wp2
                    go_roundg (j - (i + 1))
                    case measure => omega
                    case rel => exact ⟨i + 1, ct + 1, by omega, by omega, by go_num, by go_num, by omega, HO18, HR18⟩
                  · have HO18 : Hid (∃ Si, Own10 w2 w18 B Si (k + (i + 1)) ∧ names10 Si = L ∧ (of10 Si q.data.toList).length = ct) := ⟨S4, ho18, HNI.out, HC1.out h4⟩
                    clear ho18 hk18 HJN HC0 HC1
                    go_wp2
                    go_roundg (j - (i + 1))
                    case measure => omega
                    case rel => exact ⟨i + 1, ct, by omega, by omega, by go_num, by go_num, by omega, HO18, HR18⟩
                · have hltz : ¬ (i : Int) < (j : Int) := by omega
                  obtain ⟨Si, hoi, hni, hci⟩ := HW3.out
                  have hgi := hoi.good
                  have HRM := Lib.hid (hoi.remove q (by omega))
                  rw [hci] at HRM
                  have HO9 : Hid (of10 (rmS10 Si q.data.toList) q.data.toList = []) := removed10 hgi.rise _
                  clear hgi hoi hni hci HW3
                  go_wp2_with fail
                  with_reducible refine HRM.out.mono ?_
                  rintro e w19 ⟨rfl, ho19, _⟩
                  have HOF9 := Lib.hid (ho19.of_ q (by omega))
                  rw [HO9.out] at HOF9
                  have HB19 := Lib.hid (below_next HB2.out ho19.below)
                  clear ho19 HRM
                  go_wp2_with fail
                  with_reducible refine HOF9.out.mono ?_
                  rintro e w20 ⟨v20, rfl, hr20, hb20⟩
                  obtain ⟨A20, C20, rfl⟩ := row10_shape hr20
                  have HB20 := Lib.hid (below_next HB19.out hb20)
                  clear hr20 hb20 HOF9
                  go_wp2
                  go_ret
                  exact ⟨rfl, HB20.out⟩
        · obtain ⟨b1, b2⟩ := nes10 e
          have HOP := Lib.hid (HO8.out.of_ p (by omega))
          rw [HRO.out e] at HOP
          clear e HRO
          go_wp2_with fail
          with_reducible refine HOP.out.mono ?_
          rintro e w9 ⟨v9, rfl, hr9, hb9⟩
          obtain ⟨A9, C9, rfl⟩ := row10_shape hr9
          have HOS := Lib.hid (HO8.out.later hb9)
          clear hr9 hb9 HOP HO8
          have HAL := Lib.hid HOS.out.all_
          have HGD : Hid (Good10 S1 k) := HOS.out.good
          clear HW
          go_wp2_with fail
          with_reducible refine HAL.out.mono ?_
          rintro e w10 ⟨va, rfl, hra, hba⟩
          have HLR : Hid (NmR w10 va (names10 S1)) := NmR.of hra
          have HOS2 := Lib.hid (HOS.out.later hba)
          clear hra hba HAL HOS
          obtain ⟨L, hL⟩ : ∃ L, names10 S1 = L := ⟨_, rfl⟩
          rw [hL] at HLR
          have HLE := Lib.hid hL
          have hLl : L.length ≤ 6 := by rw [← hL, names10_length]; exact HGD.out.few
          have HLZ : Hid (∀ g ∈ L, (tx10 g).size ≤ 9223372036854775807) := fun g hg => by
            rw [← hL] at hg
            obtain ⟨x, hx, rfl⟩ := List.mem_map.1 hg
            rw [tx10_size]
            exact Nat.le_trans (name10_len (HGD.out.named x hx)) (by decide)
          clear hL
          obtain ⟨AL, CL, rfl⟩ := HLR.out.shape
          obtain ⟨m, hm⟩ : ∃ m, m = L.length := ⟨_, rfl⟩
          rw [← hm] at HLR hLl ⊢
          have HM := Lib.hid hm
          clear hm
          go_wp2
          go_loopg [80] m (fun gg s80 wr => ∃ j : Nat, j ≤ m ∧ m - j ≤ gg ∧ s80 = .int .i64 j ∧ Hid (∃ Sj, Own10 w2 wr B Sj k ∧ names10 Sj = L ∧ ∀ g ∈ L.take j, in10 Sj g q.data.toList = false) ∧ Hid (NmR wr (.slice AL m CL) L))
          case atStart => exact ⟨0, Nat.zero_le _, by omega, rfl, ⟨S1, HOS2.out, HLE.out, fun _ h => by simp at h⟩, HLR⟩
          case round =>
            obtain ⟨j, hj, hg, rfl, HW2, HRW⟩ := hrel
            by_cases hlt : j < m
            · have hltz : (j : Int) < (m : Int) := by omega
              have hjl : j < L.length := HM.out ▸ hlt
              obtain ⟨gb, cx, e2, x0⟩ := HRW.out.at_ hjl
              injection e2 with e2 e2n e2c
              subst e2
              clear e2n e2c
              obtain ⟨Sj, hoj, hnj, hij⟩ := HW2.out
              have hgj := hoj.good
              have HOFJ := Lib.hid (hoj.of_ q (by omega))
              have HOJ := Lib.hid hoj
              have hxm : L[j] ∈ names10 Sj := by rw [hnj]; exact List.getElem_mem hjl
              have HDE : Hid (drE10 Sj (tx10 L[j]).data.toList = 0) := by show _ = _; rw [tx10_list]; exact drE10_named hgj hxm
              have hag := again10 hgj hxm
              have HME : Hid (maE10 (drS10 Sj (tx10 L[j]).data.toList) (tx10 L[j]).data.toList = 0) := by show _ = _; rw [tx10_list]; exact hag.1
              have HNX : Hid (names10 (maS10 (drS10 Sj (tx10 L[j]).data.toList) (tx10 L[j]).data.toList) = L ∧ ∀ g ∈ L.take (j + 1), in10 (maS10 (drS10 Sj (tx10 L[j]).data.toList) (tx10 L[j]).data.toList) g q.data.toList = false) := by
                rw [tx10_list]
                refine ⟨hag.2.1.trans hnj, fun g hg => ?_⟩
                rw [List.take_succ_eq_append_getElem hjl] at hg
                cases hh : in10 (maS10 (drS10 Sj L[j]) L[j]) g q.data.toList
                · rfl
                · obtain ⟨h1, h2⟩ := (hag.2.2 g q.data.toList).1 hh
                  rcases List.mem_append.1 hg with hg | hg
                  · rw [hij g hg] at h1; cases h1
                  · exact absurd (by simpa using hg) h2
              have HNO : Hid (hasT (of10 Sj q.data.toList) (tx10 L[j]).data.toList = false → ∀ g ∈ L.take (j + 1), in10 Sj g q.data.toList = false) := fun hh g hg => by
                rw [tx10_list, hasT_of hgj.rise] at hh
                rw [List.take_succ_eq_append_getElem hjl] at hg
                rcases List.mem_append.1 hg with hg | hg
                · exact hij g hg
                · have : g = L[j] := by simpa using hg
                  rw [this]; exact hh
              have HXZ := Lib.hid (HLZ.out _ (List.getElem_mem hjl))
              have hol : (of10 Sj q.data.toList).length ≤ 1000 := Nat.le_trans (of10_le _ _) (Nat.le_trans hgj.few (by decide))
              have HNJ := Lib.hid hnj
              clear hag hxm hij hgj hoj HW2 hnj
              generalize tx10 L[j] = xs at *
              clear hjl
              go_wp2_with fail
              with_reducible refine HOFJ.out.mono ?_
              rintro e w11 ⟨vo, rfl, hro, hbo⟩
              have hro' : NmR w11 vo (of10 Sj q.data.toList) := NmR.of hro
              have HHX := Lib.hid (lhas10_calls vo _ xs w11 hol hro')
              obtain ⟨AO, CO, rfl⟩ := hro'.shape
              have HO11 := Lib.hid (HOJ.out.later hbo)
              have HR11 := Lib.hid (HRW.out.later hbo)
              clear hro hro' hbo HOFJ hol
              cases hh : hasT (of10 Sj q.data.toList) xs.data.toList with
              | false =>
                rw [hh] at HHX
                have HNO2 := Lib.hid (HNO.out hh)
                clear hh HNO HNX HDE HME
                go_wp2_with fail
                with_reducible refine HHX.out.mono ?_
                rintro e w12 ⟨rfl, hb⟩
                have HO12 : Hid (∃ Sj, Own10 w2 w12 B Sj k ∧ names10 Sj = L ∧ ∀ g ∈ L.take (j + 1), in10 Sj g q.data.toList = false) := ⟨Sj, HO11.out.later hb, HNJ.out, HNO2.out⟩
                have HR12 := Lib.hid (HR11.out.later hb)
                clear hb HHX
                go_wp2
                go_roundg (m - (j + 1))
                case measure => omega
                case rel => exact ⟨j + 1, by omega, by omega, by go_num, HO12, HR12⟩
              | true =>
                rw [hh] at HHX
                clear hh HNO
                go_wp2_with fail
                with_reducible refine HHX.out.mono ?_
                rintro e w12 ⟨rfl, hb⟩
                have HDR := Lib.hid ((HO11.out.later hb).drop xs HXZ.out)
                have HR12 := Lib.hid (HR11.out.later hb)
                rw [HDE.out] at HDR
                clear hb HHX
                go_wp2_with fail
                with_reducible refine HDR.out.mono ?_
                rintro e w13 ⟨rfl, ho13, hk13⟩
                have HMK := Lib.hid (ho13.make xs HXZ.out)
                rw [HME.out] at HMK
                have HR13 := Lib.hid (HR12.out.keeps hk13)
                clear ho13 hk13 HDR
                go_wp2_with fail
                with_reducible refine HMK.out.mono ?_
                rintro e w14 ⟨rfl, ho14, hk14⟩
                have HO14 : Hid (∃ Sj, Own10 w2 w14 B Sj k ∧ names10 Sj = L ∧ ∀ g ∈ L.take (j + 1), in10 Sj g q.data.toList = false) := ⟨_, ho14, HNX.out⟩
                have HR14 := Lib.hid (HR13.out.keeps hk14)
                clear ho14 hk14 HMK
                go_wp2
                go_roundg (m - (j + 1))
                case measure => omega
                case rel => exact ⟨j + 1, by omega, by omega, by go_num, HO14, HR14⟩
            · have hltz : ¬ (j : Int) < (m : Int) := by omega
              obtain rfl : j = m := by omega
              obtain ⟨Se, hoe, hne, hie⟩ := HW2.out
              have hge := hoe.good
              have hem : of10 Se q.data.toList = [] := of10_empty hge.rise (fun g hg => hie g (by rw [hne] at hg; rw [List.take_of_length_le (by have := HM.out; omega)]; exact hg))
              have HOFE := Lib.hid (hoe.of_ q (by omega))
              have HOE := Lib.hid hoe
              rw [hem] at HOFE
              have HN3 : Hid (names10 (rmS10 Se q.data.toList) = L) := (map_names (fun l : Set10 => delV l q.data.toList) Se).trans hne
              have HO3 : Hid (of10 (rmS10 Se q.data.toList) q.data.toList = []) := removed10 hge.rise _
              have HEM := Lib.hid hem
              clear hem hge hoe hne hie HW2 HRW HLR HLE HGD HOS2
              go_wp2_with fail
              with_reducible refine HOFE.out.mono ?_
              rintro e w15 ⟨v15, rfl, hr15, hb15⟩
              obtain ⟨A15, C15, rfl⟩ := row10_shape hr15
              have HRM := Lib.hid ((HOE.out.later hb15).remove q (by omega))
              rw [HEM.out] at HRM
              clear hr15 hb15 HOFE HOE
              go_wp2_with fail
              with_reducible refine HRM.out.mono ?_
              rintro e w16 ⟨rfl, ho16, _⟩
              have HO16 := Lib.hid ho16
              have HAL3 := Lib.hid ho16.all_
              rw [HN3.out] at HAL3
              clear ho16 HRM
              go_wp2_with fail
              with_reducible refine HAL3.out.mono ?_
              rintro e w17 ⟨v17, rfl, hr17, hb17⟩
              have HLR : Hid (NmR w17 v17 L) := NmR.of hr17
              have HO17 := Lib.hid (HO16.out.later hb17)
              clear hr17 hb17 HAL3 HO16
              obtain ⟨A17, C17, rfl⟩ := HLR.out.shape
              rw [← HM.out] at HLR ⊢
              generalize rmS10 Se q.data.toList = S3 at *
              go_wp2
              go_loopg [14, 116] j (fun gg s14 s116 wr => ∃ i ct : Nat, i ≤ j ∧ j - i ≤ gg ∧ s116 = .int .i64 i ∧ s14 = .int .i64 ct ∧ ct ≤ i ∧ Hid (∃ Si, Own10 w2 wr B Si (k + i) ∧ names10 Si = L ∧ (of10 Si q.data.toList).length = ct) ∧ Hid (NmR wr (.slice A17 j C17) L))
              case atStart => exact ⟨0, 0, Nat.zero_le _, by omega, rfl, rfl, Nat.le_refl _, ⟨S3, HO17.out, HN3.out, by rw [HO3.out]; rfl⟩, HLR⟩
              case round =>
                obtain ⟨i, ct, hi, hg, rfl, rfl, hct, HW3, HRW⟩ := hrel
                by_cases hlt : i < j
                · have hltz : (i : Int) < (j : Int) := by omega
                  have hil : i < L.length := HM.out ▸ hlt
                  obtain ⟨gb, cx, e2, x0⟩ := HRW.out.at_ hil
                  injection e2 with e2 e2n e2c
                  subst e2
                  clear e2n e2c
                  obtain ⟨Si, hoi, hni, hci⟩ := HW3.out
                  have hgi := hoi.good
                  have HJN := Lib.hid (hoi.join (by omega) (tx10 L[i]) q (HLZ.out _ (List.getElem_mem hil)) (by omega))
                  have HNI : Hid (names10 (joS10 Si (tx10 L[i]).data.toList q.data.toList) = L) := (joS10_names _ _).trans hni
                  have HC0 : Hid (joE10 Si (tx10 L[i]).data.toList q.data.toList = 0 → (of10 (joS10 Si (tx10 L[i]).data.toList q.data.toList) q.data.toList).length = ct + 1) := fun h => by rw [joined10 hgi h, hci]
                  have HC1 : Hid (¬ joE10 Si (tx10 L[i]).data.toList q.data.toList = 0 → (of10 (joS10 Si (tx10 L[i]).data.toList q.data.toList) q.data.toList).length = ct) := fun h => by
                    unfold joS10
                    rw [if_neg h, hci]
                  clear hgi hoi hni hci HW3
                  generalize joS10 Si (tx10 L[i]).data.toList q.data.toList = S4 at *
                  generalize joE10 Si (tx10 L[i]).data.toList q.data.toList = r4 at *
                  generalize tx10 L[i] = xs at *
                  clear hil
                  go_wp2_with fail
                  with_reducible refine HJN.out.mono ?_
                  rintro e w18 ⟨rfl, ho18, hk18⟩
                  have HR18 := Lib.hid (HRW.out.keeps hk18)
                  by_cases h4 : r4 = 0
                  · have HO18 : Hid (∃ Si, Own10 w2 w18 B Si (k + (i + 1)) ∧ names10 Si = L ∧ (of10 Si q.data.toList).length = ct + 1) := ⟨S4, ho18, HNI.out, HC0.out h4⟩
                    clear ho18 hk18 HJN HC0 HC1
                    subst h4
                    go_wp2
                    go_roundg (j - (i + 1))
                    case measure => omega
                    case rel => exact ⟨i + 1, ct + 1, by omega, by omega, by go_num, by go_num, by omega, HO18, HR18⟩
                  · have HO18 : Hid (∃ Si, Own10 w2 w18 B Si (k + (i + 1)) ∧ names10 Si = L ∧ (of10 Si q.data.toList).length = ct) := ⟨S4, ho18, HNI.out, HC1.out h4⟩
                    clear ho18 hk18 HJN HC0 HC1
                    go_wp2
                    go_roundg (j - (i + 1))
                    case measure => omega
                    case rel => exact ⟨i + 1, ct, by omega, by omega, by go_num, by go_num, by omega, HO18, HR18⟩
                · have hltz : ¬ (i : Int) < (j : Int) := by omega
                  obtain ⟨Si, hoi, hni, hci⟩ := HW3.out
                  have hgi := hoi.good
                  have HRM := Lib.hid (hoi.remove q (by omega))
                  rw [hci] at HRM
                  have HO9 : Hid (of10 (rmS10 Si q.data.toList) q.data.toList = []) := removed10 hgi.rise _
                  clear hgi hoi hni hci HW3
                  go_wp2_with fail
                  with_reducible refine HRM.out.mono ?_
                  rintro e w19 ⟨rfl, ho19, _⟩
                  have HOF9 := Lib.hid (ho19.of_ q (by omega))
                  rw [HO9.out] at HOF9
                  have HB19 := Lib.hid (below_next HB2.out ho19.below)
                  clear ho19 HRM
                  go_wp2_with fail
                  with_reducible refine HOF9.out.mono ?_
                  rintro e w20 ⟨v20, rfl, hr20, hb20⟩
                  obtain ⟨A20, C20, rfl⟩ := row10_shape hr20
                  have HB20 := Lib.hid (below_next HB19.out hb20)
                  clear hr20 hb20 HOF9
                  go_wp2
                  go_ret
                  exact ⟨rfl, HB20.out⟩
      · generalize reS10 S p.data.toList q.data.toList = S1 at *
        generalize reE10 S p.data.toList q.data.toList = r1 at *
        go_wp2_with fail
        with_reducible refine HRN.out.mono ?_
        rintro e w6 ⟨rfl, ho6, _⟩
        have HOS := Lib.hid ho6
        clear ho6 HRN HWAS
        have HAL := Lib.hid HOS.out.all_
        have HGD : Hid (Good10 S1 k) := HOS.out.good
        clear HW
        go_wp2_with fail
        with_reducible refine HAL.out.mono ?_
        rintro e w10 ⟨va, rfl, hra, hba⟩
        have HLR : Hid (NmR w10 va (names10 S1)) := NmR.of hra
        have HOS2 := Lib.hid (HOS.out.later hba)
        clear hra hba HAL HOS
        obtain ⟨L, hL⟩ : ∃ L, names10 S1 = L := ⟨_, rfl⟩
        rw [hL] at HLR
        have HLE := Lib.hid hL
        have hLl : L.length ≤ 6 := by rw [← hL, names10_length]; exact HGD.out.few
        have HLZ : Hid (∀ g ∈ L, (tx10 g).size ≤ 9223372036854775807) := fun g hg => by
          rw [← hL] at hg
          obtain ⟨x, hx, rfl⟩ := List.mem_map.1 hg
          rw [tx10_size]
          exact Nat.le_trans (name10_len (HGD.out.named x hx)) (by decide)
        clear hL
        obtain ⟨AL, CL, rfl⟩ := HLR.out.shape
        obtain ⟨m, hm⟩ : ∃ m, m = L.length := ⟨_, rfl⟩
        rw [← hm] at HLR hLl ⊢
        have HM := Lib.hid hm
        clear hm
        go_wp2
        go_loopg [80] m (fun gg s80 wr => ∃ j : Nat, j ≤ m ∧ m - j ≤ gg ∧ s80 = .int .i64 j ∧ Hid (∃ Sj, Own10 w2 wr B Sj k ∧ names10 Sj = L ∧ ∀ g ∈ L.take j, in10 Sj g p.data.toList = false) ∧ Hid (NmR wr (.slice AL m CL) L))
        case atStart => exact ⟨0, Nat.zero_le _, by omega, rfl, ⟨S1, HOS2.out, HLE.out, fun _ h => by simp at h⟩, HLR⟩
        case round =>
          obtain ⟨j, hj, hg, rfl, HW2, HRW⟩ := hrel
          by_cases hlt : j < m
          · have hltz : (j : Int) < (m : Int) := by omega
            have hjl : j < L.length := HM.out ▸ hlt
            obtain ⟨gb, cx, e2, x0⟩ := HRW.out.at_ hjl
            injection e2 with e2 e2n e2c
            subst e2
            clear e2n e2c
            obtain ⟨Sj, hoj, hnj, hij⟩ := HW2.out
            have hgj := hoj.good
            have HOFJ := Lib.hid (hoj.of_ p (by omega))
            have HOJ := Lib.hid hoj
            have hxm : L[j] ∈ names10 Sj := by rw [hnj]; exact List.getElem_mem hjl
            have HDE : Hid (drE10 Sj (tx10 L[j]).data.toList = 0) := by show _ = _; rw [tx10_list]; exact drE10_named hgj hxm
            have hag := again10 hgj hxm
            have HME : Hid (maE10 (drS10 Sj (tx10 L[j]).data.toList) (tx10 L[j]).data.toList = 0) := by show _ = _; rw [tx10_list]; exact hag.1
            have HNX : Hid (names10 (maS10 (drS10 Sj (tx10 L[j]).data.toList) (tx10 L[j]).data.toList) = L ∧ ∀ g ∈ L.take (j + 1), in10 (maS10 (drS10 Sj (tx10 L[j]).data.toList) (tx10 L[j]).data.toList) g p.data.toList = false) := by
              rw [tx10_list]
              refine ⟨hag.2.1.trans hnj, fun g hg => ?_⟩
              rw [List.take_succ_eq_append_getElem hjl] at hg
              cases hh : in10 (maS10 (drS10 Sj L[j]) L[j]) g p.data.toList
              · rfl
              · obtain ⟨h1, h2⟩ := (hag.2.2 g p.data.toList).1 hh
                rcases List.mem_append.1 hg with hg | hg
                · rw [hij g hg] at h1; cases h1
                · exact absurd (by simpa using hg) h2
            have HNO : Hid (hasT (of10 Sj p.data.toList) (tx10 L[j]).data.toList = false → ∀ g ∈ L.take (j + 1), in10 Sj g p.data.toList = false) := fun hh g hg => by
              rw [tx10_list, hasT_of hgj.rise] at hh
              rw [List.take_succ_eq_append_getElem hjl] at hg
              rcases List.mem_append.1 hg with hg | hg
              · exact hij g hg
              · have : g = L[j] := by simpa using hg
                rw [this]; exact hh
            have HXZ := Lib.hid (HLZ.out _ (List.getElem_mem hjl))
            have hol : (of10 Sj p.data.toList).length ≤ 1000 := Nat.le_trans (of10_le _ _) (Nat.le_trans hgj.few (by decide))
            have HNJ := Lib.hid hnj
            clear hag hxm hij hgj hoj HW2 hnj
            generalize tx10 L[j] = xs at *
            clear hjl
            go_wp2_with fail
            with_reducible refine HOFJ.out.mono ?_
            rintro e w11 ⟨vo, rfl, hro, hbo⟩
            have hro' : NmR w11 vo (of10 Sj p.data.toList) := NmR.of hro
            have HHX := Lib.hid (lhas10_calls vo _ xs w11 hol hro')
            obtain ⟨AO, CO, rfl⟩ := hro'.shape
            have HO11 := Lib.hid (HOJ.out.later hbo)
            have HR11 := Lib.hid (HRW.out.later hbo)
            clear hro hro' hbo HOFJ hol
            cases hh : hasT (of10 Sj p.data.toList) xs.data.toList with
            | false =>
              rw [hh] at HHX
              have HNO2 := Lib.hid (HNO.out hh)
              clear hh HNO HNX HDE HME
              go_wp2_with fail
              with_reducible refine HHX.out.mono ?_
              rintro e w12 ⟨rfl, hb⟩
              have HO12 : Hid (∃ Sj, Own10 w2 w12 B Sj k ∧ names10 Sj = L ∧ ∀ g ∈ L.take (j + 1), in10 Sj g p.data.toList = false) := ⟨Sj, HO11.out.later hb, HNJ.out, HNO2.out⟩
              have HR12 := Lib.hid (HR11.out.later hb)
              clear hb HHX
              go_wp2
              go_roundg (m - (j + 1))
              case measure => omega
              case rel => exact ⟨j + 1, by omega, by omega, by go_num, HO12, HR12⟩
            | true =>
              rw [hh] at HHX
              clear hh HNO
              go_wp2_with fail
              with_reducible refine HHX.out.mono ?_
              rintro e w12 ⟨rfl, hb⟩
              have HDR := Lib.hid ((HO11.out.later hb).drop xs HXZ.out)
              have HR12 := Lib.hid (HR11.out.later hb)
              rw [HDE.out] at HDR
              clear hb HHX
              go_wp2_with fail
              with_reducible refine HDR.out.mono ?_
              rintro e w13 ⟨rfl, ho13, hk13⟩
              have HMK := Lib.hid (ho13.make xs HXZ.out)
              rw [HME.out] at HMK
              have HR13 := Lib.hid (HR12.out.keeps hk13)
              clear ho13 hk13 HDR
              go_wp2_with fail
              with_reducible refine HMK.out.mono ?_
              rintro e w14 ⟨rfl, ho14, hk14⟩
              have HO14 : Hid (∃ Sj, Own10 w2 w14 B Sj k ∧ names10 Sj = L ∧ ∀ g ∈ L.take (j + 1), in10 Sj g p.data.toList = false) := ⟨_, ho14, HNX.out⟩
              have HR14 := Lib.hid (HR13.out.keeps hk14)
              clear ho14 hk14 HMK
              go_wp2
              go_roundg (m - (j + 1))
              case measure => omega
              case rel => exact ⟨j + 1, by omega, by omega, by go_num, HO14, HR14⟩
          · have hltz : ¬ (j : Int) < (m : Int) := by omega
            obtain rfl : j = m := by omega
            obtain ⟨Se, hoe, hne, hie⟩ := HW2.out
            have hge := hoe.good
            have hem : of10 Se p.data.toList = [] := of10_empty hge.rise (fun g hg => hie g (by rw [hne] at hg; rw [List.take_of_length_le (by have := HM.out; omega)]; exact hg))
            have HOFE := Lib.hid (hoe.of_ p (by omega))
            have HOE := Lib.hid hoe
            rw [hem] at HOFE
            have HN3 : Hid (names10 (rmS10 Se p.data.toList) = L) := (map_names (fun l : Set10 => delV l p.data.toList) Se).trans hne
            have HO3 : Hid (of10 (rmS10 Se p.data.toList) p.data.toList = []) := removed10 hge.rise _
            have HEM := Lib.hid hem
            clear hem hge hoe hne hie HW2 HRW HLR HLE HGD HOS2
            go_wp2_with fail
            with_reducible refine HOFE.out.mono ?_
            rintro e w15 ⟨v15, rfl, hr15, hb15⟩
            obtain ⟨A15, C15, rfl⟩ := row10_shape hr15
            have HRM := Lib.hid ((HOE.out.later hb15).remove p (by omega))
            rw [HEM.out] at HRM
            clear hr15 hb15 HOFE HOE
            go_wp2_with fail
            with_reducible refine HRM.out.mono ?_
            rintro e w16 ⟨rfl, ho16, _⟩
            have HO16 := Lib.hid ho16
            have HAL3 := Lib.hid ho16.all_
            rw [HN3.out] at HAL3
            clear ho16 HRM
            go_wp2_with fail
            with_reducible refine HAL3.out.mono ?_
            rintro e w17 ⟨v17, rfl, hr17, hb17⟩
            have HLR : Hid (NmR w17 v17 L) := NmR.of hr17
            have HO17 := Lib.hid (HO16.out.later hb17)
            clear hr17 hb17 HAL3 HO16
            obtain ⟨A17, C17, rfl⟩ := HLR.out.shape
            rw [← HM.out] at HLR ⊢
            generalize rmS10 Se p.data.toList = S3 at *
            go_wp2
            go_loopg [14, 116] j (fun gg s14 s116 wr => ∃ i ct : Nat, i ≤ j ∧ j - i ≤ gg ∧ s116 = .int .i64 i ∧ s14 = .int .i64 ct ∧ ct ≤ i ∧ Hid (∃ Si, Own10 w2 wr B Si (k + i) ∧ names10 Si = L ∧ (of10 Si p.data.toList).length = ct) ∧ Hid (NmR wr (.slice A17 j C17) L))
            case atStart => exact ⟨0, 0, Nat.zero_le _, by omega, rfl, rfl, Nat.le_refl _, ⟨S3, HO17.out, HN3.out, by rw [HO3.out]; rfl⟩, HLR⟩
            case round =>
              obtain ⟨i, ct, hi, hg, rfl, rfl, hct, HW3, HRW⟩ := hrel
              by_cases hlt : i < j
              · have hltz : (i : Int) < (j : Int) := by omega
                have hil : i < L.length := HM.out ▸ hlt
                obtain ⟨gb, cx, e2, x0⟩ := HRW.out.at_ hil
                injection e2 with e2 e2n e2c
                subst e2
                clear e2n e2c
                obtain ⟨Si, hoi, hni, hci⟩ := HW3.out
                have hgi := hoi.good
                have HJN := Lib.hid (hoi.join (by omega) (tx10 L[i]) p (HLZ.out _ (List.getElem_mem hil)) (by omega))
                have HNI : Hid (names10 (joS10 Si (tx10 L[i]).data.toList p.data.toList) = L) := (joS10_names _ _).trans hni
                have HC0 : Hid (joE10 Si (tx10 L[i]).data.toList p.data.toList = 0 → (of10 (joS10 Si (tx10 L[i]).data.toList p.data.toList) p.data.toList).length = ct + 1) := fun h => by rw [joined10 hgi h, hci]
                have HC1 : Hid (¬ joE10 Si (tx10 L[i]).data.toList p.data.toList = 0 → (of10 (joS10 Si (tx10 L[i]).data.toList p.data.toList) p.data.toList).length = ct) := fun h => by
                  unfold joS10
                  rw [if_neg h, hci]
                clear hgi hoi hni hci HW3
                generalize joS10 Si (tx10 L[i]).data.toList p.data.toList = S4 at *
                generalize joE10 Si (tx10 L[i]).data.toList p.data.toList = r4 at *
                generalize tx10 L[i] = xs at *
                clear hil
                go_wp2_with fail
                with_reducible refine HJN.out.mono ?_
                rintro e w18 ⟨rfl, ho18, hk18⟩
                have HR18 := Lib.hid (HRW.out.keeps hk18)
                by_cases h4 : r4 = 0
                · have HO18 : Hid (∃ Si, Own10 w2 w18 B Si (k + (i + 1)) ∧ names10 Si = L ∧ (of10 Si p.data.toList).length = ct + 1) := ⟨S4, ho18, HNI.out, HC0.out h4⟩
                  clear ho18 hk18 HJN HC0 HC1
                  subst h4
                  go_wp2
                  go_roundg (j - (i + 1))
                  case measure => omega
                  case rel => exact ⟨i + 1, ct + 1, by omega, by omega, by go_num, by go_num, by omega, HO18, HR18⟩
                · have HO18 : Hid (∃ Si, Own10 w2 w18 B Si (k + (i + 1)) ∧ names10 Si = L ∧ (of10 Si p.data.toList).length = ct) := ⟨S4, ho18, HNI.out, HC1.out h4⟩
                  clear ho18 hk18 HJN HC0 HC1
                  go_wp2
                  go_roundg (j - (i + 1))
                  case measure => omega
                  case rel => exact ⟨i + 1, ct, by omega, by omega, by go_num, by go_num, by omega, HO18, HR18⟩
              · have hltz : ¬ (i : Int) < (j : Int) := by omega
                obtain ⟨Si, hoi, hni, hci⟩ := HW3.out
                have hgi := hoi.good
                have HRM := Lib.hid (hoi.remove p (by omega))
                rw [hci] at HRM
                have HO9 : Hid (of10 (rmS10 Si p.data.toList) p.data.toList = []) := removed10 hgi.rise _
                clear hgi hoi hni hci HW3
                go_wp2_with fail
                with_reducible refine HRM.out.mono ?_
                rintro e w19 ⟨rfl, ho19, _⟩
                have HOF9 := Lib.hid (ho19.of_ p (by omega))
                rw [HO9.out] at HOF9
                have HB19 := Lib.hid (below_next HB2.out ho19.below)
                clear ho19 HRM
                go_wp2_with fail
                with_reducible refine HOF9.out.mono ?_
                rintro e w20 ⟨v20, rfl, hr20, hb20⟩
                obtain ⟨A20, C20, rfl⟩ := row10_shape hr20
                have HB20 := Lib.hid (below_next HB19.out hb20)
                clear hr20 hb20 HOF9
                go_wp2
                go_ret
                exact ⟨rfl, HB20.out⟩end Go.Proofs.Ytmjmglakpnjfkaa

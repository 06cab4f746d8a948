/-
  ElderPlays walked: behind any deeds each answer, all users, each look-up and each list are the document's.
  Conditions: texts and rows are no longer than they may be.
-/
import Derived.Test.YtclnkboejbnfnaaGreatElderDoL
namespace Go.Proofs.YtclnkboejbnfnaaGreat
open Go.RowKit Go.Maps Go.Sort Go.Shelf

theorem liL_le (L : Row7) (p : List UInt8) (h : L.length ≤ 12) : (liL L p).length ≤ 9223372036854775807 := by
  unfold liL begin7
  split
  · exact Nat.le_trans (List.length_filter_le _ _) (by rw [List.length_map]; omega)
  · simp

set_option maxRecDepth 100000 in
set_option maxHeartbeats 8000000 in
theorem eplays_walk (A : Option Addr) (c n : Nat) (l : List Act7) (name pre : ByteArray) (w : World) (hl : n = l.length) (hn : n ≤ 9223372036854775807) (hr : RdA7 w A l) (hkd : ∀ t ∈ l, t.kd < 256) :
    Calls Tryz.prog 3 #[.slice A n c, .string name, .string pre] w (Tells5 true w) := by
  have hnot : ∀ (x : Bool) (w : World), (Op.unary .not (.bool x)).run Tryz.prog w = .ok (.bool (!x)) w := fun _ _ => rfl
  have HV : Hid (∀ W, Calls Tryz.prog 4 #[] W (Tells5 true W)) := fun W => lives7_calls W
  have HNW : Hid (∀ W, Calls Tryz.prog 6 #[] W fun e w' => e = .returned (.pointer (some ⟨W.heap.size, 0, none⟩)) ∧ w' = W.alloc (.cells #[.map none] 51)) := fun W => new7_calls W
  have HF : Hid (∀ W, Below w.heap.size w W → Calls Tryz.prog 5 #[.slice A n c] W (Tells5 (few7 l) W)) := fun W hb => few7_calls A c n l W hl hn (hr.later hb)
  have HR := Lib.hid hr
  have HL := Lib.hid hl
  have HKD := Lib.hid hkd
  have HSM : Hid (few7 l = true → ∀ t ∈ l, t.nm.size ≤ 50 ∧ t.hs.size ≤ 50) := fun h t ht => by
    unfold few7 at h
    rw [Bool.and_eq_true, List.all_eq_true] at h
    have := h.1 t ht
    unfold little7 at this
    simpa using this
  clear hr hl hkd
  generalize few7 l = q at *
  go_enter Tryz.func3, Tryz.ntmps3
  go_wp2_with fail
  with_reducible refine (HV.out w).mono ?_
  rintro e w1 ⟨rfl, hb⟩
  have HB1 := Lib.hid hb
  clear hb
  go_wp2_with fail
  with_reducible refine (HF.out w1 HB1.out).mono ?_
  rintro e w2 ⟨rfl, hb⟩
  have HB2 := Lib.hid (below_next HB1.out hb)
  clear hb HF HB1
  have BAD : Hid (∀ W, Below w.heap.size w W → Calls Tryz.prog 4 #[] W fun e w' => e = .returned (.bool true) ∧ Hid (Below w.heap.size w w')) := fun W hb => (HV.out W).mono fun e w' ⟨he, hb'⟩ => ⟨he, below_next hb hb'⟩
  clear HV
  cases q with
  | false =>
    go_wp2_with fail
    with_reducible refine (BAD.out w2 HB2.out).mono ?_
    rintro e w3 ⟨rfl, HB3⟩
    go_wp2
    go_ret
    exact ⟨rfl, HB3.out⟩
  | true =>
  have hsm := HSM.out (by first | rfl | trivial)
  have HSM2 := Lib.hid hsm
  clear HSM hsm
  by_cases hp50 : name.size ≤ 50
  case neg =>
    have z : (name.size : Int) > 50 := by omega
    have z' : 50 < name.size := by omega
    have z2 : decide ((name.size : Int) > 50) = true := decide_eq_true z
    go_wp2_with fail
    with_reducible refine (BAD.out w2 HB2.out).mono ?_
    rintro e w3 ⟨rfl, HB3⟩
    go_wp2
    go_ret
    exact ⟨rfl, HB3.out⟩
  by_cases hm50 : pre.size ≤ 50
  case neg =>
    have y : ¬ (name.size : Int) > 50 := by omega
    have y' : ¬ 50 < name.size := by omega
    have y2 : decide ((name.size : Int) > 50) = false := decide_eq_false y
    have z : (pre.size : Int) > 50 := by omega
    have z' : 50 < pre.size := by omega
    have z2 : decide ((pre.size : Int) > 50) = true := decide_eq_true z
    go_wp2_with fail
    with_reducible refine (BAD.out w2 HB2.out).mono ?_
    rintro e w3 ⟨rfl, HB3⟩
    go_wp2
    go_ret
    exact ⟨rfl, HB3.out⟩
  have y : ¬ (name.size : Int) > 50 := by omega
  have y' : ¬ 50 < name.size := by omega
  have y2 : decide ((name.size : Int) > 50) = false := decide_eq_false y
  have z : ¬ (pre.size : Int) > 50 := by omega
  have z' : ¬ 50 < pre.size := by omega
  have z2 : decide ((pre.size : Int) > 50) = false := decide_eq_false z
  clear BAD
  go_wp2_with fail
  with_reducible refine (HNW.out w2).mono ?_
  rintro e w3 ⟨rfl, rfl⟩
  have HO := Lib.hid (own7_new w2)
  generalize w2.alloc (.cells #[.map none] 51) = w3 at *
  generalize w2.heap.size = B at *
  clear HNW y y' y2 z z' z2
  go_wp2
  go_loopg [7, 8, 45] n (fun gg s7 s8 s45 wr => ∃ (k B : Nat) (v : Value) (L : Row7), k ≤ n ∧ n - k ≤ gg ∧ s45 = .int .i64 k ∧ s7 = .pointer (some ⟨B, 0, none⟩) ∧ s8 = v ∧ Hid (Own7 w2 wr B L) ∧ Hid (Row7At L wr v))
  case atStart => exact ⟨0, B, _, [], Nat.zero_le _, by omega, rfl, rfl, rfl, HO.out, Row7At.nil _⟩
  case round =>
    obtain ⟨k, B, v, L, hk, hg, rfl, rfl, rfl, HW, HRW⟩ := hrel
    by_cases hlt : k < n
    · have hltz : (k : Int) < (n : Int) := by omega
      have hkl : k < l.length := HL.out ▸ hlt
      obtain ⟨b, off, rfl, hb, hc⟩ := (HR.out.later (below_next HB2.out HW.out.below)) (by intro e; rw [e] at hkl; exact absurd hkl (Nat.not_lt_zero _))
      have c0 : wr.cell? ⟨b, off + k * 3, none⟩ = some (.int .u8 (l[k].kd : Int)) := hc k hkl 0 _ rfl
      have c1 : wr.cell? ⟨b, off + k * 3 + 1, none⟩ = some (.string l[k].nm) := hc k hkl 1 _ rfl
      have c2 : wr.cell? ⟨b, off + k * 3 + 2, none⟩ = some (.string l[k].hs) := hc k hkl 2 _ rfl
      have hnm := (HSM2.out _ (List.getElem_mem hkl)).1
      have hhs := (HSM2.out _ (List.getElem_mem hkl)).2
      have hk256 := HKD.out _ (List.getElem_mem hkl)
      clear hc hb
      generalize l[k].kd = kd at *
      generalize l[k].nm = nm at *
      generalize l[k].hs = hs at *
      have hb1 := below_alloc (Below.refl wr.heap.size wr) (.cells #[.int .u8 (kd : Int), .string nm, .string hs] 29)
      have HO1 := Lib.hid (HW.out.later hb1)
      have HR1 := Lib.hid (HRW.out.later hb1)
      have HA1 := Lib.hid (actat_new wr kd nm hs)
      have a0 := HA1.out.c0
      have a1 := HA1.out.c1
      have a2 := HA1.out.c2
      obtain ⟨A1, cc1, rfl⟩ := HR1.out.us.shape
      obtain ⟨r, hr⟩ : ∃ r, r = kd % 5 := ⟨_, rfl⟩
      have hrem : (kd : Int).tmod 5 = (r : Int) := by rw [hr]; rfl
      have hr5 : r < 5 := by omega
      clear hb1 HW HRW hr
      by_cases r3 : r = 3
      · subst r3
        go_wp2_with fail
        generalize wr.alloc (.cells #[.int .u8 (kd : Int), .string nm, .string hs] 29) = w4 at *
        generalize wr.heap.size = N at *
        with_reducible refine HO1.out.copy.mono ?_
        rintro e wa ⟨Bc, rfl, hoc⟩
        have HCC := Lib.hid hoc
        have HAa := Lib.hid (HA1.out.later hoc.below)
        have HC1 := Lib.hid (hoc.create nm hs (by omega) (by omega))
        clear hoc a0 a1 a2
        have a1 := HAa.out.c1
        have a2 := HAa.out.c2
        generalize crE L nm.data.toList hs.data.toList = x1 at *
        generalize crL L nm.data.toList hs.data.toList = Lx at *
        go_wp2_with fail
        with_reducible refine HC1.out.mono ?_
        rintro e wb ⟨rfl, hoc, _⟩
        have HC2 := Lib.hid (hoc.delete ⟨#[97, 110, 110]⟩ (by decide))
        clear hoc a1 a2 HC1 HCC HAa
        generalize deE Lx (ByteArray.mk #[97, 110, 110]).data.toList = x2 at *
        generalize deL Lx (ByteArray.mk #[97, 110, 110]).data.toList = Ly at *
        go_wp2_with fail
        with_reducible refine HC2.out.mono ?_
        rintro e w5 ⟨rfl, hoc, _⟩
        have HO5 := Lib.hid (HO1.out.later hoc.below)
        have HR5 := Lib.hid (HR1.out.later hoc.below)
        have HA5 := Lib.hid (HA1.out.later hoc.below)
        clear hoc HC2 HO1 HR1 HA1
        obtain ⟨B2, hB2⟩ : ∃ B2, B2 = B := ⟨_, rfl⟩
        subst hB2
        obtain ⟨L2, hL2⟩ : ∃ L2, L2 = L := ⟨_, rfl⟩
        subst hL2
        obtain ⟨A2, hA2⟩ : ∃ A2, A2 = A1 := ⟨_, rfl⟩
        subst hA2
        obtain ⟨c2, hc2⟩ : ∃ c2, c2 = cc1 := ⟨_, rfl⟩
        subst hc2
        have HLN := Lib.hid HO5.out.len
        go_wp2_with fail
        with_reducible refine HLN.out.mono ?_
        rintro e w6 ⟨rfl, rfl⟩
        have HAL := Lib.hid HO5.out.allu
        clear HLN
        go_wp2_with fail
        with_reducible refine HAL.out.mono ?_
        rintro e w6 ⟨v6, rfl, hu, hb⟩
        have HO6 := Lib.hid (HO5.out.later hb)
        have HR6 := Lib.hid (HR5.out.later hb)
        have HA6 := Lib.hid (HA5.out.later hb)
        have HSU := Lib.hid (sameusers7_calls v6 _ L2 w6 (Us7.of_users hu) HR6.out.us (by have := HO6.out.few; omega))
        obtain ⟨A6, c6, rfl⟩ := (Us7.of_users hu).shape
        clear hu hb HO5 HR5 HA5 HAL
        go_wp2_with fail
        with_reducible refine HSU.out.mono ?_
        rintro e w7 ⟨rfl, hb⟩
        have HO7 := Lib.hid (HO6.out.later hb)
        have HR7 := Lib.hid (HR6.out.later hb)
        have HA7 := Lib.hid (HA6.out.later hb)
        clear hb HO6 HR6 HA6 HSU
        have c1 := HA7.out.c1
        have hb8 := below_alloc (Below.refl w7.heap.size w7) (.cells #[.string name, .string nm] 9)
        have HO8 := Lib.hid (HO7.out.later hb8)
        have HR8 := Lib.hid (HR7.out.later hb8)
        have hq0 : (w7.alloc (.cells #[.string name, .string nm] 9)).cell? ⟨w7.heap.size, 0, none⟩ = some (.string name) := by rw [World.cell?_alloc_at _ _ _ _ rfl]; rfl
        have hq1 : (w7.alloc (.cells #[.string name, .string nm] 9)).cell? ⟨w7.heap.size, 1, none⟩ = some (.string nm) := by rw [World.cell?_alloc_at _ _ _ _ rfl]; rfl
        have HQ0 := Lib.hid hq0
        have HQ1 := Lib.hid hq1
        have hqlt : w7.heap.size < (w7.alloc (.cells #[.string name, .string nm] 9)).heap.size := by simp
        clear hq0 hq1 hb8 HO7 HR7 HA7
        go_wp2
        clear c1
        generalize w7.alloc (.cells #[.string name, .string nm] 9) = w8 at *
        generalize w7.heap.size = N8 at *
        go_loopg [15, 110] 2 (fun gg _ s110 wq => ∃ j : Nat, j ≤ 2 ∧ 2 - j ≤ gg ∧ s110 = .int .i64 j ∧ Hid (Below w8.heap.size w8 wq))
        case atStart => exact ⟨0, by omega, by omega, rfl, Below.refl _ _⟩
        case round =>
          obtain ⟨j, hj, hgj, rfl, HWQ⟩ := hrel
          by_cases hj2 : j < 2
          · have hjz : (j : Int) < 2 := by omega
            obtain ⟨qs, hqc, hqs⟩ : ∃ qs : ByteArray, wr.cell? ⟨N8, j, none⟩ = some (.string qs) ∧ qs.size ≤ 1000 := by
              have hj' : j = 0 ∨ j = 1 := by omega
              rcases hj' with rfl | rfl
              · exact ⟨name, (HWQ.out.cell (p := ⟨N8, 0, none⟩) hqlt).trans HQ0.out, by omega⟩
              · exact ⟨nm, (HWQ.out.cell (p := ⟨N8, 1, none⟩) hqlt).trans HQ1.out, by omega⟩
            have HLK := Lib.hid ((HO8.out.later HWQ.out).lookup qs (by omega))
            have HRL : Hid (∀ W, Below w8.heap.size w8 W → Calls Tryz.prog 15 #[.slice A2 L2.length c2, .string qs] W fun e w' => e = .returned (.tuple #[.string (tx7 (loS L2 qs.data.toList)), .int .i64 (deE L2 qs.data.toList)]) ∧ Below W.heap.size W w') := fun W hb => rlookup7_calls _ L2 qs W (HR8.out.later hb) HO8.out.rise HO8.out.few hqs
            generalize tx7 (loS L2 qs.data.toList) = sg at *
            generalize deE L2 qs.data.toList = se at *
            have n1 : (sg.toList != sg.toList) = false := by simp
            have n2 : (sg.toList == sg.toList) = true := by simp
            have n3 : (se != se) = false := by simp
            go_wp2_with fail
            with_reducible refine HLK.out.mono ?_
            rintro e w9 ⟨rfl, hb⟩
            have HB9 := Lib.hid (below_next HWQ.out hb)
            have HRL9 := Lib.hid (HRL.out w9 HB9.out)
            clear hb hqc HLK HRL
            go_wp2_with fail
            with_reducible refine HRL9.out.mono ?_
            rintro e w10 ⟨rfl, hb⟩
            have HB10 := Lib.hid (below_next HB9.out hb)
            clear hb HRL9
            go_wp2
            go_roundg (2 - (j + 1))
            case measure => omega
            case rel => exact ⟨j + 1, by omega, by omega, by go_num, HB10⟩
          · have hjz : ¬ (j : Int) < 2 := by omega
            have HO9 := Lib.hid (HO8.out.later HWQ.out)
            have HR9 := Lib.hid (HR8.out.later HWQ.out)
            have HLI := Lib.hid (HO9.out.list pre (by omega))
            have HRI : Hid (∀ W, Row7At L2 W (.slice A2 L2.length c2) → Calls Tryz.prog 17 #[.slice A2 L2.length c2, .string pre] W (Lists7 (liE pre.data.toList) (liL L2 pre.data.toList) W)) := fun W hr => rlist7_calls _ L2 pre W hr HO9.out.few (by omega)
            have HLL : Hid ((liL L2 pre.data.toList).length ≤ 9223372036854775807) := liL_le L2 _ HO9.out.few
            unfold Lists7 at HRI
            generalize liE pre.data.toList = le at *
            generalize liL L2 pre.data.toList = ll at *
            have n3 : (le != le) = false := by simp
            go_wp2_with fail
            with_reducible refine HLI.out.mono ?_
            rintro e w10 ⟨v10, rfl, ht, hb⟩
            have HT10 := Lib.hid ht
            have HO10 := Lib.hid (HO9.out.later hb)
            have HR10 := Lib.hid (HR9.out.later hb)
            have HRI10 := Lib.hid (HRI.out w10 HR10.out)
            obtain ⟨A10, c10, rfl, _⟩ := ht
            clear hb HRI HLI HO9 HR9
            go_wp2_with fail
            with_reducible refine HRI10.out.mono ?_
            rintro e w11 ⟨v11, rfl, ht, hb⟩
            have HO11 := Lib.hid (HO10.out.later hb)
            have HR11 := Lib.hid (HR10.out.later hb)
            have HST := Lib.hid (sametexts7_calls _ v11 ll w11 (HT10.out.later hb) ht HLL.out)
            obtain ⟨A11, c11, rfl, _⟩ := ht
            clear hb HRI10 HO10 HR10 HT10
            go_wp2_with fail
            with_reducible refine HST.out.mono ?_
            rintro e w12 ⟨rfl, hb⟩
            have HO12 := Lib.hid (HO11.out.later hb)
            have HR12 := Lib.hid (HR11.out.later hb)
            clear hb HST HO11 HR11
            go_wp2
            go_roundg (n - (k + 1))
            case measure => omega
            case rel => exact ⟨k + 1, B2, _, L2, by omega, by omega, by go_num, rfl, rfl, HO12, HR12⟩
      by_cases r4 : r = 4
      · subst r4
        clear r3
        go_wp2_with fail
        generalize wr.alloc (.cells #[.int .u8 (kd : Int), .string nm, .string hs] 29) = w4 at *
        generalize wr.heap.size = N at *
        with_reducible refine HO1.out.copy.mono ?_
        rintro e wa ⟨Bc, rfl, hoc⟩
        have HCC := Lib.hid hoc
        have HAa := Lib.hid (HA1.out.later hoc.below)
        have HRa := Lib.hid (HR1.out.later hoc.below)
        have HC1 := Lib.hid (HO1.out.create_apart hoc nm hs (by omega) (by omega))
        clear hoc a0 a1 a2
        have a1 := HAa.out.c1
        have a2 := HAa.out.c2
        go_wp2_with fail
        with_reducible refine HC1.out.mono ?_
        rintro e w5 ⟨⟨x1, rfl⟩, ho, hkp⟩
        have HO5 := Lib.hid ho
        have HR5 := Lib.hid (HRa.out.keeps hkp)
        have HA5 := Lib.hid (HAa.out.keeps hkp)
        clear ho hkp HC1 HCC HAa HRa HO1 HR1 HA1 a1 a2
        obtain ⟨B2, hB2⟩ : ∃ B2, B2 = Bc := ⟨_, rfl⟩
        subst hB2
        obtain ⟨L2, hL2⟩ : ∃ L2, L2 = L := ⟨_, rfl⟩
        subst hL2
        obtain ⟨A2, hA2⟩ : ∃ A2, A2 = A1 := ⟨_, rfl⟩
        subst hA2
        obtain ⟨c2, hc2⟩ : ∃ c2, c2 = cc1 := ⟨_, rfl⟩
        subst hc2
        have HLN := Lib.hid HO5.out.len
        go_wp2_with fail
        with_reducible refine HLN.out.mono ?_
        rintro e w6 ⟨rfl, rfl⟩
        have HAL := Lib.hid HO5.out.allu
        clear HLN
        go_wp2_with fail
        with_reducible refine HAL.out.mono ?_
        rintro e w6 ⟨v6, rfl, hu, hb⟩
        have HO6 := Lib.hid (HO5.out.later hb)
        have HR6 := Lib.hid (HR5.out.later hb)
        have HA6 := Lib.hid (HA5.out.later hb)
        have HSU := Lib.hid (sameusers7_calls v6 _ L2 w6 (Us7.of_users hu) HR6.out.us (by have := HO6.out.few; omega))
        obtain ⟨A6, c6, rfl⟩ := (Us7.of_users hu).shape
        clear hu hb HO5 HR5 HA5 HAL
        go_wp2_with fail
        with_reducible refine HSU.out.mono ?_
        rintro e w7 ⟨rfl, hb⟩
        have HO7 := Lib.hid (HO6.out.later hb)
        have HR7 := Lib.hid (HR6.out.later hb)
        have HA7 := Lib.hid (HA6.out.later hb)
        clear hb HO6 HR6 HA6 HSU
        have c1 := HA7.out.c1
        have hb8 := below_alloc (Below.refl w7.heap.size w7) (.cells #[.string name, .string nm] 9)
        have HO8 := Lib.hid (HO7.out.later hb8)
        have HR8 := Lib.hid (HR7.out.later hb8)
        have hq0 : (w7.alloc (.cells #[.string name, .string nm] 9)).cell? ⟨w7.heap.size, 0, none⟩ = some (.string name) := by rw [World.cell?_alloc_at _ _ _ _ rfl]; rfl
        have hq1 : (w7.alloc (.cells #[.string name, .string nm] 9)).cell? ⟨w7.heap.size, 1, none⟩ = some (.string nm) := by rw [World.cell?_alloc_at _ _ _ _ rfl]; rfl
        have HQ0 := Lib.hid hq0
        have HQ1 := Lib.hid hq1
        have hqlt : w7.heap.size < (w7.alloc (.cells #[.string name, .string nm] 9)).heap.size := by simp
        clear hq0 hq1 hb8 HO7 HR7 HA7
        go_wp2
        clear c1
        generalize w7.alloc (.cells #[.string name, .string nm] 9) = w8 at *
        generalize w7.heap.size = N8 at *
        go_loopg [15, 110] 2 (fun gg _ s110 wq => ∃ j : Nat, j ≤ 2 ∧ 2 - j ≤ gg ∧ s110 = .int .i64 j ∧ Hid (Below w8.heap.size w8 wq))
        case atStart => exact ⟨0, by omega, by omega, rfl, Below.refl _ _⟩
        case round =>
          obtain ⟨j, hj, hgj, rfl, HWQ⟩ := hrel
          by_cases hj2 : j < 2
          · have hjz : (j : Int) < 2 := by omega
            obtain ⟨qs, hqc, hqs⟩ : ∃ qs : ByteArray, wr.cell? ⟨N8, j, none⟩ = some (.string qs) ∧ qs.size ≤ 1000 := by
              have hj' : j = 0 ∨ j = 1 := by omega
              rcases hj' with rfl | rfl
              · exact ⟨name, (HWQ.out.cell (p := ⟨N8, 0, none⟩) hqlt).trans HQ0.out, by omega⟩
              · exact ⟨nm, (HWQ.out.cell (p := ⟨N8, 1, none⟩) hqlt).trans HQ1.out, by omega⟩
            have HLK := Lib.hid ((HO8.out.later HWQ.out).lookup qs (by omega))
            have HRL : Hid (∀ W, Below w8.heap.size w8 W → Calls Tryz.prog 15 #[.slice A2 L2.length c2, .string qs] W fun e w' => e = .returned (.tuple #[.string (tx7 (loS L2 qs.data.toList)), .int .i64 (deE L2 qs.data.toList)]) ∧ Below W.heap.size W w') := fun W hb => rlookup7_calls _ L2 qs W (HR8.out.later hb) HO8.out.rise HO8.out.few hqs
            generalize tx7 (loS L2 qs.data.toList) = sg at *
            generalize deE L2 qs.data.toList = se at *
            have n1 : (sg.toList != sg.toList) = false := by simp
            have n2 : (sg.toList == sg.toList) = true := by simp
            have n3 : (se != se) = false := by simp
            go_wp2_with fail
            with_reducible refine HLK.out.mono ?_
            rintro e w9 ⟨rfl, hb⟩
            have HB9 := Lib.hid (below_next HWQ.out hb)
            have HRL9 := Lib.hid (HRL.out w9 HB9.out)
            clear hb hqc HLK HRL
            go_wp2_with fail
            with_reducible refine HRL9.out.mono ?_
            rintro e w10 ⟨rfl, hb⟩
            have HB10 := Lib.hid (below_next HB9.out hb)
            clear hb HRL9
            go_wp2
            go_roundg (2 - (j + 1))
            case measure => omega
            case rel => exact ⟨j + 1, by omega, by omega, by go_num, HB10⟩
          · have hjz : ¬ (j : Int) < 2 := by omega
            have HO9 := Lib.hid (HO8.out.later HWQ.out)
            have HR9 := Lib.hid (HR8.out.later HWQ.out)
            have HLI := Lib.hid (HO9.out.list pre (by omega))
            have HRI : Hid (∀ W, Row7At L2 W (.slice A2 L2.length c2) → Calls Tryz.prog 17 #[.slice A2 L2.length c2, .string pre] W (Lists7 (liE pre.data.toList) (liL L2 pre.data.toList) W)) := fun W hr => rlist7_calls _ L2 pre W hr HO9.out.few (by omega)
            have HLL : Hid ((liL L2 pre.data.toList).length ≤ 9223372036854775807) := liL_le L2 _ HO9.out.few
            unfold Lists7 at HRI
            generalize liE pre.data.toList = le at *
            generalize liL L2 pre.data.toList = ll at *
            have n3 : (le != le) = false := by simp
            go_wp2_with fail
            with_reducible refine HLI.out.mono ?_
            rintro e w10 ⟨v10, rfl, ht, hb⟩
            have HT10 := Lib.hid ht
            have HO10 := Lib.hid (HO9.out.later hb)
            have HR10 := Lib.hid (HR9.out.later hb)
            have HRI10 := Lib.hid (HRI.out w10 HR10.out)
            obtain ⟨A10, c10, rfl, _⟩ := ht
            clear hb HRI HLI HO9 HR9
            go_wp2_with fail
            with_reducible refine HRI10.out.mono ?_
            rintro e w11 ⟨v11, rfl, ht, hb⟩
            have HO11 := Lib.hid (HO10.out.later hb)
            have HR11 := Lib.hid (HR10.out.later hb)
            have HST := Lib.hid (sametexts7_calls _ v11 ll w11 (HT10.out.later hb) ht HLL.out)
            obtain ⟨A11, c11, rfl, _⟩ := ht
            clear hb HRI10 HO10 HR10 HT10
            go_wp2_with fail
            with_reducible refine HST.out.mono ?_
            rintro e w12 ⟨rfl, hb⟩
            have HO12 := Lib.hid (HO11.out.later hb)
            have HR12 := Lib.hid (HR11.out.later hb)
            clear hb HST HO11 HR11
            go_wp2
            go_roundg (n - (k + 1))
            case measure => omega
            case rel => exact ⟨k + 1, B2, _, L2, by omega, by omega, by go_num, rfl, rfl, HO12, HR12⟩
      · have z3 : ((r : Int) == 3) = false := beq_eq_false_iff_ne.2 (by omega)
        have z4 : ((r : Int) == 4) = false := beq_eq_false_iff_ne.2 (by omega)
        have z3' : ¬ (r : Int) = 3 := by omega
        have z4' : ¬ (r : Int) = 4 := by omega
        have HDO : Hid (∀ W, Own7 w2 W B L → Row7At L W (.slice A1 L.length cc1) → Calls Tryz.prog 10 #[.pointer (some ⟨B, 0, none⟩), .slice A1 L.length cc1, .agg #[.int .u8 (r : Int), .string nm, .string hs]] W fun e w' => ∃ v', e = .returned (.tuple #[v', .bool true]) ∧ Own7 w2 w' B (actL r L nm.data.toList hs.data.toList) ∧ Row7At (actL r L nm.data.toList hs.data.toList) w' v' ∧ Keeps7 W w') := fun W ho hr => do7_law w2 B L _ r nm hs W ho hr (by omega) hnm hhs
        have HD2 := Lib.hid (HDO.out _ HO1.out HR1.out)
        clear HDO
        generalize actL r L nm.data.toList hs.data.toList = L2 at *
        go_wp2_with fail
        generalize wr.alloc (.cells #[.int .u8 (kd : Int), .string nm, .string hs] 29) = w4 at *
        generalize wr.heap.size = N at *
        with_reducible refine HD2.out.mono ?_
        rintro e w5 ⟨v5, rfl, ho, hr, hkp⟩
        have HO5 := Lib.hid ho
        have HR5 := Lib.hid hr
        have HA5 := Lib.hid (HA1.out.keeps hkp)
        obtain ⟨A2, c2, rfl⟩ := hr.us.shape
        clear ho hr hkp HD2 HO1 HR1 HA1 a0 a1 a2 z3 z4 z3' z4'
        obtain ⟨B2, hB2⟩ : ∃ B2, B2 = B := ⟨_, rfl⟩
        subst hB2
        have HLN := Lib.hid HO5.out.len
        go_wp2_with fail
        with_reducible refine HLN.out.mono ?_
        rintro e w6 ⟨rfl, rfl⟩
        have HAL := Lib.hid HO5.out.allu
        clear HLN
        go_wp2_with fail
        with_reducible refine HAL.out.mono ?_
        rintro e w6 ⟨v6, rfl, hu, hb⟩
        have HO6 := Lib.hid (HO5.out.later hb)
        have HR6 := Lib.hid (HR5.out.later hb)
        have HA6 := Lib.hid (HA5.out.later hb)
        have HSU := Lib.hid (sameusers7_calls v6 _ L2 w6 (Us7.of_users hu) HR6.out.us (by have := HO6.out.few; omega))
        obtain ⟨A6, c6, rfl⟩ := (Us7.of_users hu).shape
        clear hu hb HO5 HR5 HA5 HAL
        go_wp2_with fail
        with_reducible refine HSU.out.mono ?_
        rintro e w7 ⟨rfl, hb⟩
        have HO7 := Lib.hid (HO6.out.later hb)
        have HR7 := Lib.hid (HR6.out.later hb)
        have HA7 := Lib.hid (HA6.out.later hb)
        clear hb HO6 HR6 HA6 HSU
        have c1 := HA7.out.c1
        have hb8 := below_alloc (Below.refl w7.heap.size w7) (.cells #[.string name, .string nm] 9)
        have HO8 := Lib.hid (HO7.out.later hb8)
        have HR8 := Lib.hid (HR7.out.later hb8)
        have hq0 : (w7.alloc (.cells #[.string name, .string nm] 9)).cell? ⟨w7.heap.size, 0, none⟩ = some (.string name) := by rw [World.cell?_alloc_at _ _ _ _ rfl]; rfl
        have hq1 : (w7.alloc (.cells #[.string name, .string nm] 9)).cell? ⟨w7.heap.size, 1, none⟩ = some (.string nm) := by rw [World.cell?_alloc_at _ _ _ _ rfl]; rfl
        have HQ0 := Lib.hid hq0
        have HQ1 := Lib.hid hq1
        have hqlt : w7.heap.size < (w7.alloc (.cells #[.string name, .string nm] 9)).heap.size := by simp
        clear hq0 hq1 hb8 HO7 HR7 HA7
        go_wp2
        clear c1
        generalize w7.alloc (.cells #[.string name, .string nm] 9) = w8 at *
        generalize w7.heap.size = N8 at *
        go_loopg [15, 110] 2 (fun gg _ s110 wq => ∃ j : Nat, j ≤ 2 ∧ 2 - j ≤ gg ∧ s110 = .int .i64 j ∧ Hid (Below w8.heap.size w8 wq))
        case atStart => exact ⟨0, by omega, by omega, rfl, Below.refl _ _⟩
        case round =>
          obtain ⟨j, hj, hgj, rfl, HWQ⟩ := hrel
          by_cases hj2 : j < 2
          · have hjz : (j : Int) < 2 := by omega
            obtain ⟨qs, hqc, hqs⟩ : ∃ qs : ByteArray, wr.cell? ⟨N8, j, none⟩ = some (.string qs) ∧ qs.size ≤ 1000 := by
              have hj' : j = 0 ∨ j = 1 := by omega
              rcases hj' with rfl | rfl
              · exact ⟨name, (HWQ.out.cell (p := ⟨N8, 0, none⟩) hqlt).trans HQ0.out, by omega⟩
              · exact ⟨nm, (HWQ.out.cell (p := ⟨N8, 1, none⟩) hqlt).trans HQ1.out, by omega⟩
            have HLK := Lib.hid ((HO8.out.later HWQ.out).lookup qs (by omega))
            have HRL : Hid (∀ W, Below w8.heap.size w8 W → Calls Tryz.prog 15 #[.slice A2 L2.length c2, .string qs] W fun e w' => e = .returned (.tuple #[.string (tx7 (loS L2 qs.data.toList)), .int .i64 (deE L2 qs.data.toList)]) ∧ Below W.heap.size W w') := fun W hb => rlookup7_calls _ L2 qs W (HR8.out.later hb) HO8.out.rise HO8.out.few hqs
            generalize tx7 (loS L2 qs.data.toList) = sg at *
            generalize deE L2 qs.data.toList = se at *
            have n1 : (sg.toList != sg.toList) = false := by simp
            have n2 : (sg.toList == sg.toList) = true := by simp
            have n3 : (se != se) = false := by simp
            go_wp2_with fail
            with_reducible refine HLK.out.mono ?_
            rintro e w9 ⟨rfl, hb⟩
            have HB9 := Lib.hid (below_next HWQ.out hb)
            have HRL9 := Lib.hid (HRL.out w9 HB9.out)
            clear hb hqc HLK HRL
            go_wp2_with fail
            with_reducible refine HRL9.out.mono ?_
            rintro e w10 ⟨rfl, hb⟩
            have HB10 := Lib.hid (below_next HB9.out hb)
            clear hb HRL9
            go_wp2
            go_roundg (2 - (j + 1))
            case measure => omega
            case rel => exact ⟨j + 1, by omega, by omega, by go_num, HB10⟩
          · have hjz : ¬ (j : Int) < 2 := by omega
            have HO9 := Lib.hid (HO8.out.later HWQ.out)
            have HR9 := Lib.hid (HR8.out.later HWQ.out)
            have HLI := Lib.hid (HO9.out.list pre (by omega))
            have HRI : Hid (∀ W, Row7At L2 W (.slice A2 L2.length c2) → Calls Tryz.prog 17 #[.slice A2 L2.length c2, .string pre] W (Lists7 (liE pre.data.toList) (liL L2 pre.data.toList) W)) := fun W hr => rlist7_calls _ L2 pre W hr HO9.out.few (by omega)
            have HLL : Hid ((liL L2 pre.data.toList).length ≤ 9223372036854775807) := liL_le L2 _ HO9.out.few
            unfold Lists7 at HRI
            generalize liE pre.data.toList = le at *
            generalize liL L2 pre.data.toList = ll at *
            have n3 : (le != le) = false := by simp
            go_wp2_with fail
            with_reducible refine HLI.out.mono ?_
            rintro e w10 ⟨v10, rfl, ht, hb⟩
            have HT10 := Lib.hid ht
            have HO10 := Lib.hid (HO9.out.later hb)
            have HR10 := Lib.hid (HR9.out.later hb)
            have HRI10 := Lib.hid (HRI.out w10 HR10.out)
            obtain ⟨A10, c10, rfl, _⟩ := ht
            clear hb HRI HLI HO9 HR9
            go_wp2_with fail
            with_reducible refine HRI10.out.mono ?_
            rintro e w11 ⟨v11, rfl, ht, hb⟩
            have HO11 := Lib.hid (HO10.out.later hb)
            have HR11 := Lib.hid (HR10.out.later hb)
            have HST := Lib.hid (sametexts7_calls _ v11 ll w11 (HT10.out.later hb) ht HLL.out)
            obtain ⟨A11, c11, rfl, _⟩ := ht
            clear hb HRI10 HO10 HR10 HT10
            go_wp2_with fail
            with_reducible refine HST.out.mono ?_
            rintro e w12 ⟨rfl, hb⟩
            have HO12 := Lib.hid (HO11.out.later hb)
            have HR12 := Lib.hid (HR11.out.later hb)
            clear hb HST HO11 HR11
            go_wp2
            go_roundg (n - (k + 1))
            case measure => omega
            case rel => exact ⟨k + 1, B2, _, L2, by omega, by omega, by go_num, rfl, rfl, HO12, HR12⟩
    · have hltz : ¬ (k : Int) < (n : Int) := by omega
      have HF2 := Lib.hid (below_next HB2.out HW.out.below)
      clear HW HRW
      go_wp2
      go_ret
      exact ⟨rfl, HF2.out⟩
end Go.Proofs.YtclnkboejbnfnaaGreat

/-
  OpNames walked: kinds have names and schemas as the document says, replies are compared as it says.
  Conditions: the table reads as it is laid.
-/
import Derived.Test.YtacmjmfdhegojaaDoorOpRep
import Derived.Test.YtacmjmfdhegojaaDoorOpRefC
namespace Go.Proofs.YtacmjmfdhegojaaDoor
open Go.RowKit

theorem nam_no14 {i : Int} (h : know14 i = false) : nam14 i = [] := by
  refine (none14 (k := i) ?_).1
  rintro ⟨h0, h1⟩
  simp [know14, h0, h1] at h
theorem know_iff14 {i : Int} : know14 i = true ↔ 0 ≤ i ∧ i < 17 := by simp [know14]
theorem know_no14 {i : Int} (h : ¬ (0 ≤ i ∧ i < 17)) : know14 i = false := by
  cases e : know14 i
  · rfl
  · exact absurd (know_iff14.1 e) h
theorem nam_yes14 {i : Int} (h : know14 i = true) : nam14 i ≠ [] := by
  obtain ⟨h0, h1⟩ := know_iff14.1 h
  obtain ⟨n, rfl⟩ : ∃ n : Nat, i = n := ⟨i.toNat, by omega⟩
  have hall : ∀ n : Fin 17, nam14 (n : Nat) ≠ [] := by decide
  exact hall ⟨n, by omega⟩
theorem nam_inj14 {i k : Int} (h : know14 i = true) (h' : know14 k = true) (e : nam14 i = nam14 k) : i = k := by
  obtain ⟨h0, h1⟩ := know_iff14.1 h
  obtain ⟨h2, h3⟩ := know_iff14.1 h'
  obtain ⟨n, rfl⟩ : ∃ n : Nat, i = n := ⟨i.toNat, by omega⟩
  obtain ⟨m, rfl⟩ : ∃ m : Nat, k = m := ⟨k.toNat, by omega⟩
  have hall : ∀ n m : Fin 17, nam14 (n : Nat) = nam14 (m : Nat) → n = m := by decide
  have := hall ⟨n, by omega⟩ ⟨m, by omega⟩ e
  have : n = m := congrArg Fin.val this
  rw [this]
theorem tx_empty14 {l : List UInt8} (h : l ≠ []) : (tx14 l).toList.isEmpty = false ∧ ¬ (tx14 l).toList = [] :=
  nonempty14 fun e => h (by have := congrArg (fun s : ByteArray => s.data.toList) e; simpa [tx14] using this)
theorem tx_ne14 {l m : List UInt8} (h : l ≠ m) : ((tx14 l).toList == (tx14 m).toList) = false := by
  rw [str_eq14]
  refine decide_eq_false fun e => h ?_
  have := congrArg (fun s : ByteArray => s.data.toList) e
  simpa [tx14] using this

set_option maxRecDepth 100000 in
set_option maxHeartbeats 8000000 in
theorem onames14_walk (i k : Int) (x y : Nat) (A1 A2 : Option Addr) (c1 c2 : Nat) (ss ts : List ByteArray) (w : World) (h : Laid14 w) (hx : x < 256) (hy : y < 256) (h1 : RdS w A1 ss) (h2 : RdS w A2 ts) (hm1 : ss.length ≤ 9223372036854775807) (hm2 : ts.length ≤ 9223372036854775807) :
    Calls Tryd.prog 6 #[.int .i64 i, .int .i64 k, .int .u8 x, .int .u8 y, .slice A1 ss.length c1, .slice A2 ts.length c2] w fun e w' => e = .returned (.bool true) ∧ Below w.heap.size w w' := by
  have HL := Lib.hid h
  have HLV := Lib.hid (fun W (hw : Laid14 W) => lives14_calls W hw)
  have HFR := Lib.hid (fun W (hw : Laid14 W) => From14_calls i W hw)
  have HRF := Lib.hid (fun W => rfrom14_calls i W)
  have HNI := Lib.hid (fun W (hw : Laid14 W) => Name14_calls i W hw)
  have HNK := Lib.hid (fun W (hw : Laid14 W) => Name14_calls k W hw)
  have HSA : Hid (∀ e1 e2 W, Below w.heap.size w W → Calls Tryd.prog 17 #[.agg #[.int .i64 e1, .slice A1 ss.length c1], .agg #[.int .i64 e2, .slice A2 ts.length c2]] W (Says14 (.bool (sam14 e1 ss e2 ts)) W)) := fun e1 e2 W hb => Same14_calls e1 e2 A1 A2 c1 c2 ss ts W (h1.later14 hb) (h2.later14 hb) hm1
  have HST : Hid (∀ W, Below w.heap.size w W → Calls Tryd.prog 18 #[.slice A1 ss.length c1, .slice A2 ts.length c2] W (Says14 (.bool (decide (ss = ts))) W)) := fun W hb => samet14_calls A1 A2 c1 c2 ss ts W (h1.later14 hb) (h2.later14 hb) hm1
  have HS1 : Hid (∀ e1 e2, e1 ≠ e2 → sam14 e1 ss e2 ts = false) := fun e1 e2 he => by unfold sam14; rw [decide_eq_false he]; rfl
  have HS2 : Hid (∀ e1, e1 ≠ 0 → sam14 e1 ss e1 ts = true) := fun e1 he => by unfold sam14 tls14; rw [if_neg he, if_neg he]; simp
  have HS3 : Hid (sam14 0 ss 0 ts = decide (ss = ts)) := by show _ = _; unfold sam14 tls14; rw [if_pos rfl, if_pos rfl]; simp
  clear h h1 h2 hm1 hm2
  generalize decide (ss = ts) = r at *
  obtain ⟨sm, hsm⟩ : ∃ sm : Int → Int → Bool, sm = fun e1 e2 => sam14 e1 ss e2 ts := ⟨_, rfl⟩
  have HSA : Hid (∀ e1 e2 W, Below w.heap.size w W → Calls Tryd.prog 17 #[.agg #[.int .i64 e1, .slice A1 ss.length c1], .agg #[.int .i64 e2, .slice A2 ts.length c2]] W (Says14 (.bool (sm e1 e2)) W)) := by rw [hsm]; exact HSA.out
  have HS1 : Hid (∀ e1 e2, e1 ≠ e2 → sm e1 e2 = false) := by rw [hsm]; exact HS1.out
  have HS2 : Hid (∀ e1, e1 ≠ 0 → sm e1 e1 = true) := by rw [hsm]; exact HS2.out
  have HS3 : Hid (sm 0 0 = r) := by rw [hsm]; exact HS3.out
  clear hsm
  generalize ss.length = n1 at *
  generalize ts.length = n2 at *
  by_cases hn1 : 10 < n1
  · have d1 : decide ((n1 : Int) > 10) = true := by simp; omega
    clear hn1 HSA HST HFR HRF HNI HNK
    go_enter Tryd.func6, Tryd.ntmps6
    go_wp2_with fail
    with_reducible refine (HLV.out _ HL.out).mono ?_
    rintro e w1 ⟨rfl, hb⟩
    have HB1 := Lib.hid hb
    have HL1 := Lib.hid (HL.out.later hb)
    clear hb
    go_wp2_with fail
    with_reducible refine (HLV.out _ HL1.out).mono ?_
    rintro e w2 ⟨rfl, hb⟩
    have HB2 := Lib.hid (next14 HB1.out hb)
    clear hb
    go_wp2
    go_ret
    exact ⟨rfl, HB2.out⟩
  have d1 : decide ((n1 : Int) > 10) = false := by simp; omega
  clear hn1
  by_cases hn2 : 10 < n2
  · have d2 : decide ((n2 : Int) > 10) = true := by simp; omega
    clear hn2 HSA HST HFR HRF HNI HNK
    go_enter Tryd.func6, Tryd.ntmps6
    go_wp2_with fail
    with_reducible refine (HLV.out _ HL.out).mono ?_
    rintro e w1 ⟨rfl, hb⟩
    have HB1 := Lib.hid hb
    have HL1 := Lib.hid (HL.out.later hb)
    clear hb
    go_wp2_with fail
    with_reducible refine (HLV.out _ HL1.out).mono ?_
    rintro e w2 ⟨rfl, hb⟩
    have HB2 := Lib.hid (next14 HB1.out hb)
    clear hb
    go_wp2
    go_ret
    exact ⟨rfl, HB2.out⟩
  have d2 : decide ((n2 : Int) > 10) = false := by simp; omega
  clear hn2
  by_cases hi : i < 0
  · have d3 : decide (i ≥ 0) = false := by simp; omega
    have hi0 : nam14 i = [] := nam_no14 (know_no14 (by omega))
    rw [hi0] at HNI
    have e0 : tx14 [] = ⟨#[]⟩ := rfl
    rw [e0] at HNI
    clear e0
    clear hi0 hi
    generalize frm14 i = f at *
    generalize tx14 (nam14 i) = si at *
    try generalize tx14 (nam14 k) = sk at *
    go_enter Tryd.func6, Tryd.ntmps6
    go_wp2_with fail
    with_reducible refine (HLV.out _ HL.out).mono ?_
    rintro e w1 ⟨rfl, hb⟩
    have HB := Lib.hid hb
    have HL1 := Lib.hid (HL.out.later hb)
    clear hb
    go_wp2_with fail
    with_reducible refine (HFR.out _ HL1.out).mono ?_
    rintro e w2 ⟨rfl, hb⟩
    have HB' := Lib.hid (next14 HB.out hb)
    have HL2 := Lib.hid (HL1.out.later hb)
    clear hb HB
    have HB := HB'
    clear HB'
    go_wp2_with fail
    with_reducible refine (HRF.out _).mono ?_
    rintro e w3 ⟨rfl, hb⟩
    have HB' := Lib.hid (next14 HB.out hb)
    have HL3 := Lib.hid (HL2.out.later hb)
    clear hb HB
    have HB := HB'
    clear HB'
    go_wp2_with fail
    with_reducible refine (HNI.out _ HL3.out).mono ?_
    rintro e w4 ⟨rfl, hb⟩
    have HB' := Lib.hid (next14 HB.out hb)
    have HL4 := Lib.hid (HL3.out.later hb)
    clear hb HB
    have HB := HB'
    clear HB'
    have HLZ := HL4
    go_wp2_with fail
    with_reducible refine (HSA.out _ _ _ (alloc14 (alloc14 HB.out _) _)).mono ?_
    rintro e w9 ⟨rfl, hb⟩
    have HB9 := Lib.hid ((alloc14 (alloc14 HB.out _) _).trans (hb.mono (alloc14 (alloc14 HB.out _) _).size))
    clear hb HSA
    by_cases he : (x : Int) % 3 = (y : Int) % 3
    · have d8 : ((x : Int) % 3 == (y : Int) % 3) = true := by rw [he]; simp
      by_cases h0 : (x : Int) % 3 = 0
      · have d9 : ((x : Int) % 3 != 0) = false := by rw [h0]; rfl
        rw [show sm ((x : Int) % 3) ((y : Int) % 3) = r from by rw [← he, h0]; exact HS3.out]
        clear HS1 HS2 HS3 he h0
        go_wp2_with fail
        with_reducible refine (HST.out _ HB9.out).mono ?_
        rintro e w10 ⟨rfl, hb⟩
        have HB10 := Lib.hid (HB9.out.trans (hb.mono HB9.out.size))
        clear hb HST
        cases r
        all_goals
          go_wp2
          go_ret
          exact ⟨rfl, HB10.out⟩
      · have d9 : ((x : Int) % 3 != 0) = true := by simpa using h0
        rw [show sm ((x : Int) % 3) ((y : Int) % 3) = true from by rw [← he]; exact HS2.out _ h0]
        clear HS1 HS2 HS3 h0 HST he
        go_wp2
        go_ret
        exact ⟨rfl, HB9.out⟩
    · rw [HS1.out _ _ he]
      have d8 : ((x : Int) % 3 == (y : Int) % 3) = false := by rw [beq_eq_false_iff_ne]; exact he
      clear HS1 HS2 HS3 he HST
      go_wp2
      go_ret
      exact ⟨rfl, HB9.out⟩
  by_cases hi2 : 17 ≤ i
  · have d3 : decide (i ≥ 0) = true := by simp; omega
    have d4 : decide (i < 17) = false := by simp; omega
    have hi0 : nam14 i = [] := nam_no14 (know_no14 (by omega))
    rw [hi0] at HNI
    have e0 : tx14 [] = ⟨#[]⟩ := rfl
    rw [e0] at HNI
    clear e0
    clear hi0 hi hi2
    generalize frm14 i = f at *
    generalize tx14 (nam14 i) = si at *
    try generalize tx14 (nam14 k) = sk at *
    go_enter Tryd.func6, Tryd.ntmps6
    go_wp2_with fail
    with_reducible refine (HLV.out _ HL.out).mono ?_
    rintro e w1 ⟨rfl, hb⟩
    have HB := Lib.hid hb
    have HL1 := Lib.hid (HL.out.later hb)
    clear hb
    go_wp2_with fail
    with_reducible refine (HFR.out _ HL1.out).mono ?_
    rintro e w2 ⟨rfl, hb⟩
    have HB' := Lib.hid (next14 HB.out hb)
    have HL2 := Lib.hid (HL1.out.later hb)
    clear hb HB
    have HB := HB'
    clear HB'
    go_wp2_with fail
    with_reducible refine (HRF.out _).mono ?_
    rintro e w3 ⟨rfl, hb⟩
    have HB' := Lib.hid (next14 HB.out hb)
    have HL3 := Lib.hid (HL2.out.later hb)
    clear hb HB
    have HB := HB'
    clear HB'
    go_wp2_with fail
    with_reducible refine (HNI.out _ HL3.out).mono ?_
    rintro e w4 ⟨rfl, hb⟩
    have HB' := Lib.hid (next14 HB.out hb)
    have HL4 := Lib.hid (HL3.out.later hb)
    clear hb HB
    have HB := HB'
    clear HB'
    have HLZ := HL4
    go_wp2_with fail
    with_reducible refine (HSA.out _ _ _ (alloc14 (alloc14 HB.out _) _)).mono ?_
    rintro e w9 ⟨rfl, hb⟩
    have HB9 := Lib.hid ((alloc14 (alloc14 HB.out _) _).trans (hb.mono (alloc14 (alloc14 HB.out _) _).size))
    clear hb HSA
    by_cases he : (x : Int) % 3 = (y : Int) % 3
    · have d8 : ((x : Int) % 3 == (y : Int) % 3) = true := by rw [he]; simp
      by_cases h0 : (x : Int) % 3 = 0
      · have d9 : ((x : Int) % 3 != 0) = false := by rw [h0]; rfl
        rw [show sm ((x : Int) % 3) ((y : Int) % 3) = r from by rw [← he, h0]; exact HS3.out]
        clear HS1 HS2 HS3 he h0
        go_wp2_with fail
        with_reducible refine (HST.out _ HB9.out).mono ?_
        rintro e w10 ⟨rfl, hb⟩
        have HB10 := Lib.hid (HB9.out.trans (hb.mono HB9.out.size))
        clear hb HST
        cases r
        all_goals
          go_wp2
          go_ret
          exact ⟨rfl, HB10.out⟩
      · have d9 : ((x : Int) % 3 != 0) = true := by simpa using h0
        rw [show sm ((x : Int) % 3) ((y : Int) % 3) = true from by rw [← he]; exact HS2.out _ h0]
        clear HS1 HS2 HS3 h0 HST he
        go_wp2
        go_ret
        exact ⟨rfl, HB9.out⟩
    · rw [HS1.out _ _ he]
      have d8 : ((x : Int) % 3 == (y : Int) % 3) = false := by rw [beq_eq_false_iff_ne]; exact he
      clear HS1 HS2 HS3 he HST
      go_wp2
      go_ret
      exact ⟨rfl, HB9.out⟩
  by_cases hk : k < 0
  · have d3 : decide (i ≥ 0) = true := by simp; omega
    have d4 : decide (i < 17) = true := by simp; omega
    have hki : know14 i = true := know_iff14.2 ⟨by omega, by omega⟩
    obtain ⟨na1, na2⟩ := tx_empty14 (nam_yes14 hki)
    have d5 : decide (k ≥ 0) = false := by simp; omega
    clear hki hi hi2 hk
    generalize frm14 i = f at *
    generalize tx14 (nam14 i) = si at *
    try generalize tx14 (nam14 k) = sk at *
    go_enter Tryd.func6, Tryd.ntmps6
    go_wp2_with fail
    with_reducible refine (HLV.out _ HL.out).mono ?_
    rintro e w1 ⟨rfl, hb⟩
    have HB := Lib.hid hb
    have HL1 := Lib.hid (HL.out.later hb)
    clear hb
    go_wp2_with fail
    with_reducible refine (HFR.out _ HL1.out).mono ?_
    rintro e w2 ⟨rfl, hb⟩
    have HB' := Lib.hid (next14 HB.out hb)
    have HL2 := Lib.hid (HL1.out.later hb)
    clear hb HB
    have HB := HB'
    clear HB'
    go_wp2_with fail
    with_reducible refine (HRF.out _).mono ?_
    rintro e w3 ⟨rfl, hb⟩
    have HB' := Lib.hid (next14 HB.out hb)
    have HL3 := Lib.hid (HL2.out.later hb)
    clear hb HB
    have HB := HB'
    clear HB'
    go_wp2_with fail
    with_reducible refine (HNI.out _ HL3.out).mono ?_
    rintro e w4 ⟨rfl, hb⟩
    have HB' := Lib.hid (next14 HB.out hb)
    have HL4 := Lib.hid (HL3.out.later hb)
    clear hb HB
    have HB := HB'
    clear HB'
    have HLZ := HL4
    go_wp2_with fail
    with_reducible refine (HSA.out _ _ _ (alloc14 (alloc14 HB.out _) _)).mono ?_
    rintro e w9 ⟨rfl, hb⟩
    have HB9 := Lib.hid ((alloc14 (alloc14 HB.out _) _).trans (hb.mono (alloc14 (alloc14 HB.out _) _).size))
    clear hb HSA
    by_cases he : (x : Int) % 3 = (y : Int) % 3
    · have d8 : ((x : Int) % 3 == (y : Int) % 3) = true := by rw [he]; simp
      by_cases h0 : (x : Int) % 3 = 0
      · have d9 : ((x : Int) % 3 != 0) = false := by rw [h0]; rfl
        rw [show sm ((x : Int) % 3) ((y : Int) % 3) = r from by rw [← he, h0]; exact HS3.out]
        clear HS1 HS2 HS3 he h0
        go_wp2_with fail
        with_reducible refine (HST.out _ HB9.out).mono ?_
        rintro e w10 ⟨rfl, hb⟩
        have HB10 := Lib.hid (HB9.out.trans (hb.mono HB9.out.size))
        clear hb HST
        cases r
        all_goals
          go_wp2
          go_ret
          exact ⟨rfl, HB10.out⟩
      · have d9 : ((x : Int) % 3 != 0) = true := by simpa using h0
        rw [show sm ((x : Int) % 3) ((y : Int) % 3) = true from by rw [← he]; exact HS2.out _ h0]
        clear HS1 HS2 HS3 h0 HST he
        go_wp2
        go_ret
        exact ⟨rfl, HB9.out⟩
    · rw [HS1.out _ _ he]
      have d8 : ((x : Int) % 3 == (y : Int) % 3) = false := by rw [beq_eq_false_iff_ne]; exact he
      clear HS1 HS2 HS3 he HST
      go_wp2
      go_ret
      exact ⟨rfl, HB9.out⟩
  by_cases hk2 : 17 ≤ k
  · have d3 : decide (i ≥ 0) = true := by simp; omega
    have d4 : decide (i < 17) = true := by simp; omega
    have hki : know14 i = true := know_iff14.2 ⟨by omega, by omega⟩
    obtain ⟨na1, na2⟩ := tx_empty14 (nam_yes14 hki)
    have d5 : decide (k ≥ 0) = true := by simp; omega
    have d6 : decide (k < 17) = false := by simp; omega
    clear hki hi hi2 hk hk2
    generalize frm14 i = f at *
    generalize tx14 (nam14 i) = si at *
    try generalize tx14 (nam14 k) = sk at *
    go_enter Tryd.func6, Tryd.ntmps6
    go_wp2_with fail
    with_reducible refine (HLV.out _ HL.out).mono ?_
    rintro e w1 ⟨rfl, hb⟩
    have HB := Lib.hid hb
    have HL1 := Lib.hid (HL.out.later hb)
    clear hb
    go_wp2_with fail
    with_reducible refine (HFR.out _ HL1.out).mono ?_
    rintro e w2 ⟨rfl, hb⟩
    have HB' := Lib.hid (next14 HB.out hb)
    have HL2 := Lib.hid (HL1.out.later hb)
    clear hb HB
    have HB := HB'
    clear HB'
    go_wp2_with fail
    with_reducible refine (HRF.out _).mono ?_
    rintro e w3 ⟨rfl, hb⟩
    have HB' := Lib.hid (next14 HB.out hb)
    have HL3 := Lib.hid (HL2.out.later hb)
    clear hb HB
    have HB := HB'
    clear HB'
    go_wp2_with fail
    with_reducible refine (HNI.out _ HL3.out).mono ?_
    rintro e w4 ⟨rfl, hb⟩
    have HB' := Lib.hid (next14 HB.out hb)
    have HL4 := Lib.hid (HL3.out.later hb)
    clear hb HB
    have HB := HB'
    clear HB'
    have HLZ := HL4
    go_wp2_with fail
    with_reducible refine (HSA.out _ _ _ (alloc14 (alloc14 HB.out _) _)).mono ?_
    rintro e w9 ⟨rfl, hb⟩
    have HB9 := Lib.hid ((alloc14 (alloc14 HB.out _) _).trans (hb.mono (alloc14 (alloc14 HB.out _) _).size))
    clear hb HSA
    by_cases he : (x : Int) % 3 = (y : Int) % 3
    · have d8 : ((x : Int) % 3 == (y : Int) % 3) = true := by rw [he]; simp
      by_cases h0 : (x : Int) % 3 = 0
      · have d9 : ((x : Int) % 3 != 0) = false := by rw [h0]; rfl
        rw [show sm ((x : Int) % 3) ((y : Int) % 3) = r from by rw [← he, h0]; exact HS3.out]
        clear HS1 HS2 HS3 he h0
        go_wp2_with fail
        with_reducible refine (HST.out _ HB9.out).mono ?_
        rintro e w10 ⟨rfl, hb⟩
        have HB10 := Lib.hid (HB9.out.trans (hb.mono HB9.out.size))
        clear hb HST
        cases r
        all_goals
          go_wp2
          go_ret
          exact ⟨rfl, HB10.out⟩
      · have d9 : ((x : Int) % 3 != 0) = true := by simpa using h0
        rw [show sm ((x : Int) % 3) ((y : Int) % 3) = true from by rw [← he]; exact HS2.out _ h0]
        clear HS1 HS2 HS3 h0 HST he
        go_wp2
        go_ret
        exact ⟨rfl, HB9.out⟩
    · rw [HS1.out _ _ he]
      have d8 : ((x : Int) % 3 == (y : Int) % 3) = false := by rw [beq_eq_false_iff_ne]; exact he
      clear HS1 HS2 HS3 he HST
      go_wp2
      go_ret
      exact ⟨rfl, HB9.out⟩
  by_cases hik : i = k
  · have d3 : decide (i ≥ 0) = true := by simp; omega
    have d4 : decide (i < 17) = true := by simp; omega
    have hki : know14 i = true := know_iff14.2 ⟨by omega, by omega⟩
    obtain ⟨na1, na2⟩ := tx_empty14 (nam_yes14 hki)
    subst hik
    have n1 : (((tx14 (nam14 i)).toList == (tx14 (nam14 i)).toList)) = true := by simp
    clear hki hi hi2 hk hk2
    generalize frm14 i = f at *
    generalize tx14 (nam14 i) = si at *
    try generalize tx14 (nam14 k) = sk at *
    go_enter Tryd.func6, Tryd.ntmps6
    go_wp2_with fail
    with_reducible refine (HLV.out _ HL.out).mono ?_
    rintro e w1 ⟨rfl, hb⟩
    have HB := Lib.hid hb
    have HL1 := Lib.hid (HL.out.later hb)
    clear hb
    go_wp2_with fail
    with_reducible refine (HFR.out _ HL1.out).mono ?_
    rintro e w2 ⟨rfl, hb⟩
    have HB' := Lib.hid (next14 HB.out hb)
    have HL2 := Lib.hid (HL1.out.later hb)
    clear hb HB
    have HB := HB'
    clear HB'
    go_wp2_with fail
    with_reducible refine (HRF.out _).mono ?_
    rintro e w3 ⟨rfl, hb⟩
    have HB' := Lib.hid (next14 HB.out hb)
    have HL3 := Lib.hid (HL2.out.later hb)
    clear hb HB
    have HB := HB'
    clear HB'
    go_wp2_with fail
    with_reducible refine (HNI.out _ HL3.out).mono ?_
    rintro e w4 ⟨rfl, hb⟩
    have HB' := Lib.hid (next14 HB.out hb)
    have HL4 := Lib.hid (HL3.out.later hb)
    clear hb HB
    have HB := HB'
    clear HB'
    go_wp2_with fail
    with_reducible refine (HNI.out _ HL4.out).mono ?_
    rintro e w5 ⟨rfl, hb⟩
    have HB' := Lib.hid (next14 HB.out hb)
    have HL5 := Lib.hid (HL4.out.later hb)
    clear hb HB
    have HB := HB'
    clear HB'
    go_wp2_with fail
    with_reducible refine (HNK.out _ HL5.out).mono ?_
    rintro e w6 ⟨rfl, hb⟩
    have HB' := Lib.hid (next14 HB.out hb)
    have HL6 := Lib.hid (HL5.out.later hb)
    clear hb HB
    have HB := HB'
    clear HB'
    have HLZ := HL6
    go_wp2_with fail
    with_reducible refine (HSA.out _ _ _ (alloc14 (alloc14 HB.out _) _)).mono ?_
    rintro e w9 ⟨rfl, hb⟩
    have HB9 := Lib.hid ((alloc14 (alloc14 HB.out _) _).trans (hb.mono (alloc14 (alloc14 HB.out _) _).size))
    clear hb HSA
    by_cases he : (x : Int) % 3 = (y : Int) % 3
    · have d8 : ((x : Int) % 3 == (y : Int) % 3) = true := by rw [he]; simp
      by_cases h0 : (x : Int) % 3 = 0
      · have d9 : ((x : Int) % 3 != 0) = false := by rw [h0]; rfl
        rw [show sm ((x : Int) % 3) ((y : Int) % 3) = r from by rw [← he, h0]; exact HS3.out]
        clear HS1 HS2 HS3 he h0
        go_wp2_with fail
        with_reducible refine (HST.out _ HB9.out).mono ?_
        rintro e w10 ⟨rfl, hb⟩
        have HB10 := Lib.hid (HB9.out.trans (hb.mono HB9.out.size))
        clear hb HST
        cases r
        all_goals
          go_wp2
          go_ret
          exact ⟨rfl, HB10.out⟩
      · have d9 : ((x : Int) % 3 != 0) = true := by simpa using h0
        rw [show sm ((x : Int) % 3) ((y : Int) % 3) = true from by rw [← he]; exact HS2.out _ h0]
        clear HS1 HS2 HS3 h0 HST he
        go_wp2
        go_ret
        exact ⟨rfl, HB9.out⟩
    · rw [HS1.out _ _ he]
      have d8 : ((x : Int) % 3 == (y : Int) % 3) = false := by rw [beq_eq_false_iff_ne]; exact he
      clear HS1 HS2 HS3 he HST
      go_wp2
      go_ret
      exact ⟨rfl, HB9.out⟩
  · have d3 : decide (i ≥ 0) = true := by simp; omega
    have d4 : decide (i < 17) = true := by simp; omega
    have hki : know14 i = true := know_iff14.2 ⟨by omega, by omega⟩
    obtain ⟨na1, na2⟩ := tx_empty14 (nam_yes14 hki)
    have d5 : decide (k ≥ 0) = true := by simp; omega
    have d6 : decide (k < 17) = true := by simp; omega
    have hkk : know14 k = true := know_iff14.2 ⟨by omega, by omega⟩
    have n1 := tx_ne14 (fun e => hik (nam_inj14 hki hkk e))
    have n3 : (i == k) = false := by rw [beq_eq_false_iff_ne]; exact hik
    clear hki hkk hi hi2 hk hk2 hik
    generalize frm14 i = f at *
    generalize tx14 (nam14 i) = si at *
    try generalize tx14 (nam14 k) = sk at *
    go_enter Tryd.func6, Tryd.ntmps6
    go_wp2_with fail
    with_reducible refine (HLV.out _ HL.out).mono ?_
    rintro e w1 ⟨rfl, hb⟩
    have HB := Lib.hid hb
    have HL1 := Lib.hid (HL.out.later hb)
    clear hb
    go_wp2_with fail
    with_reducible refine (HFR.out _ HL1.out).mono ?_
    rintro e w2 ⟨rfl, hb⟩
    have HB' := Lib.hid (next14 HB.out hb)
    have HL2 := Lib.hid (HL1.out.later hb)
    clear hb HB
    have HB := HB'
    clear HB'
    go_wp2_with fail
    with_reducible refine (HRF.out _).mono ?_
    rintro e w3 ⟨rfl, hb⟩
    have HB' := Lib.hid (next14 HB.out hb)
    have HL3 := Lib.hid (HL2.out.later hb)
    clear hb HB
    have HB := HB'
    clear HB'
    go_wp2_with fail
    with_reducible refine (HNI.out _ HL3.out).mono ?_
    rintro e w4 ⟨rfl, hb⟩
    have HB' := Lib.hid (next14 HB.out hb)
    have HL4 := Lib.hid (HL3.out.later hb)
    clear hb HB
    have HB := HB'
    clear HB'
    go_wp2_with fail
    with_reducible refine (HNI.out _ HL4.out).mono ?_
    rintro e w5 ⟨rfl, hb⟩
    have HB' := Lib.hid (next14 HB.out hb)
    have HL5 := Lib.hid (HL4.out.later hb)
    clear hb HB
    have HB := HB'
    clear HB'
    go_wp2_with fail
    with_reducible refine (HNK.out _ HL5.out).mono ?_
    rintro e w6 ⟨rfl, hb⟩
    have HB' := Lib.hid (next14 HB.out hb)
    have HL6 := Lib.hid (HL5.out.later hb)
    clear hb HB
    have HB := HB'
    clear HB'
    have HLZ := HL6
    go_wp2_with fail
    with_reducible refine (HSA.out _ _ _ (alloc14 (alloc14 HB.out _) _)).mono ?_
    rintro e w9 ⟨rfl, hb⟩
    have HB9 := Lib.hid ((alloc14 (alloc14 HB.out _) _).trans (hb.mono (alloc14 (alloc14 HB.out _) _).size))
    clear hb HSA
    by_cases he : (x : Int) % 3 = (y : Int) % 3
    · have d8 : ((x : Int) % 3 == (y : Int) % 3) = true := by rw [he]; simp
      by_cases h0 : (x : Int) % 3 = 0
      · have d9 : ((x : Int) % 3 != 0) = false := by rw [h0]; rfl
        rw [show sm ((x : Int) % 3) ((y : Int) % 3) = r from by rw [← he, h0]; exact HS3.out]
        clear HS1 HS2 HS3 he h0
        go_wp2_with fail
        with_reducible refine (HST.out _ HB9.out).mono ?_
        rintro e w10 ⟨rfl, hb⟩
        have HB10 := Lib.hid (HB9.out.trans (hb.mono HB9.out.size))
        clear hb HST
        cases r
        all_goals
          go_wp2
          go_ret
          exact ⟨rfl, HB10.out⟩
      · have d9 : ((x : Int) % 3 != 0) = true := by simpa using h0
        rw [show sm ((x : Int) % 3) ((y : Int) % 3) = true from by rw [← he]; exact HS2.out _ h0]
        clear HS1 HS2 HS3 h0 HST he
        go_wp2
        go_ret
        exact ⟨rfl, HB9.out⟩
    · rw [HS1.out _ _ he]
      have d8 : ((x : Int) % 3 == (y : Int) % 3) = false := by rw [beq_eq_false_iff_ne]; exact he
      clear HS1 HS2 HS3 he HST
      go_wp2
      go_ret
      exact ⟨rfl, HB9.out⟩
end Go.Proofs.YtacmjmfdhegojaaDoor

/-
  Get of package user, of the first schema: what is read, or the first error.
  Conditions: at most 2^40 bytes; the library's own variable MaxLen holds some number.
-/
import Derived.Test.YtghmcbgejeanfaaDoorGetU
import Derived.Test.YtghmcbgejeanfaaDoorRefTxt
namespace Go.Proofs.YtghmcbgejeanfaaDoor
open Go.RowKit

/-- A zero user. -/
def zeroU : Us := ⟨⟨#[]⟩, ⟨#[]⟩, ⟨#[]⟩, false, none, [], 0⟩
/-- A user is told, or, with an error, a zero one. -/
def Got6 (w : World) (B : Nat) (st : St) (u : Us) (e : Ending) (w' : World) : Prop := ∃ A c, e = .returned (if st.e = 0 then ({ u with ga := A, gc := c } : Us) else zeroU).v ∧ w'.ownsRow 0 9 1 (.slice A u.gs.length c) u.gs.length (u.gs.map Value.string) ∧ (∀ j, Value.ownBlock (.slice A u.gs.length c) = some j → w.heap.size ≤ j) ∧ Did w B st w'
/-- The user of the first schema that two texts are. -/
def one6 (nm hs : List UInt8) : Us := ⟨mk6 nm, mk6 hs, ⟨#[]⟩, false, none, [], 0⟩

set_option maxRecDepth 100000 in
set_option maxHeartbeats 2000000 in
theorem get6_one (B : Nat) (st : St) (w : World) (h : Rdr w B st) (hl : st.bs.length ≤ 1000000) (hm : Len5 w) (hBg : B ≠ 0) (nm hs : List UInt8) (s1 s2 s3 : St) (h1 : textS st 65535 = (s1, nm)) (h2 : textS s1 65535 = (s2, hs)) (h3 : failS s2 (chk6 1 (one6 nm hs)) = s3)
    (hn : nm.length ≤ 1000000) (hh : hs.length ≤ 1000000) :
    Calls Tryd.prog 14 #[.pointer (some ⟨B, 0, none⟩), .int .i64 1] w (Got6 w B s3 (one6 nm hs)) := by
  have hB := h.lt
  have HK : Hid (∀ W, Calls Tryd.prog 26 #[.int .i64 1] W fun e w' => e = .returned (.int .i64 0) ∧ w' = W) := fun W => known6_calls 1 W
  have HT1 : Hid (∀ W, Rdr W B st → Calls Tryd.prog 42 #[.pointer (some ⟨B, 0, none⟩), .int .i64 65535] W fun e w' => e = .returned (.string (mk6 nm)) ∧ Did W B s1 w') := fun W hr => by
    have := rtext_calls B st 65535 W hr (by omega)
    rw [h1] at this
    exact this
  have hl1 : s1.bs.length ≤ 1000000 := by have := textS_left st 65535; rw [h1] at this; simp only at this; omega
  have HT2 : Hid (∀ W, Rdr W B s1 → Calls Tryd.prog 42 #[.pointer (some ⟨B, 0, none⟩), .int .i64 65535] W fun e w' => e = .returned (.string (mk6 hs)) ∧ Did W B s2 w') := fun W hr => by
    have := rtext_calls B s1 65535 W hr (by omega)
    rw [h2] at this
    exact this
  have HCK : Hid (∀ W, Turns (fun i => i = B) w W → Calls Tryd.prog 9 #[.int .i64 1, .agg #[.string (mk6 nm), .string (mk6 hs), .string ⟨#[]⟩, .bool false, .slice none 0 0]] W (Errs5 (chk6 1 (one6 nm hs)) W)) := fun W ht => by
    refine check6_calls 1 (one6 nm hs) W ⟨fun e => absurd rfl e, ?_, ?_, Nat.zero_le _, fun _ => rfl, Nat.zero_le _, Nat.zero_le _, fun s hs => by cases hs⟩ ?_
    · show nm.toArray.size ≤ _; rw [List.size_toArray]; omega
    · show hs.toArray.size ≤ _; rw [List.size_toArray]; omega
    · obtain ⟨hlt, m, hcm⟩ := hm
      exact ⟨Nat.lt_of_lt_of_le hlt ht.size, m, (ht.cell (p := ⟨0, 0, none⟩) hlt (fun e => hBg e.symm)).trans hcm⟩
  have HFL : Hid (∀ W, Rdr W B s2 → Calls Tryd.prog 41 #[.pointer (some ⟨B, 0, none⟩), .int .i64 (chk6 1 (one6 nm hs))] W (Void W B s3)) := fun W hr => by
    have := fail_calls B s2 (chk6 1 (one6 nm hs)) W hr
    rw [h3] at this
    exact this
  have HER : Hid (∀ W, Rdr W B s3 → Calls Tryd.prog 19 #[.pointer (some ⟨B, 0, none⟩)] W fun e w' => e = .returned (.int .i64 s3.e) ∧ W = w') := fun W hr => rerr_calls B s3 W hr
  have HG0 := Lib.hid (Gt6.start h)
  have HB := Lib.hid hB
  have HU : Hid ((one6 nm hs).v = .agg #[.string (mk6 nm), .string (mk6 hs), .string ⟨#[]⟩, .bool false, .slice none 0 0]) := rfl
  generalize chk6 1 (one6 nm hs) = ck at *
  clear h hl hm h1 h2 h3 hn hh hl1 hBg hB
  unfold mk6 at *
  generalize (⟨nm.toArray⟩ : ByteArray) = x1 at *
  generalize (⟨hs.toArray⟩ : ByteArray) = x2 at *
  go_enter Tryd.func14, Tryd.ntmps14
  go_wp2_with fail
  with_reducible refine (HK.out _).mono ?_
  rintro e w1 ⟨rfl, rfl⟩
  go_wp2_with fail
  generalize (w.alloc (.cells #[.string ⟨#[]⟩, .string ⟨#[]⟩, .string ⟨#[]⟩, .bool false, .slice none 0 0] 24)).alloc (.cells #[.string ⟨#[]⟩, .string ⟨#[]⟩, .string ⟨#[]⟩, .bool false, .slice none 0 0] 24) = W1 at *
  with_reducible refine (HT1.out W1 HG0.out.rdr).mono ?_
  rintro e w2 ⟨rfl, hd⟩
  have hg := Gt6.did HB.out HG0.out hd
  have k0 : _ = some (.string ⟨#[]⟩ : Value) := hg.v.at_ 0
  have hfr := hg.v.free
  have HG1 := Lib.hid (hg.store (hg.v.set0 (.string x1)))
  clear hg hd HG0 HT1
  go_wp2_with fail
  generalize w2.setCell ⟨w.heap.size + 1, 0, none⟩ (.string x1) = W2 at *
  with_reducible refine (HT2.out W2 HG1.out.rdr).mono ?_
  rintro e w3 ⟨rfl, hd⟩
  have hg := Gt6.did HB.out HG1.out hd
  clear k0 hfr
  have k1 : _ = some (.string ⟨#[]⟩ : Value) := hg.v.at_ 1
  have hfr := hg.v.free
  have hg2 := hg.store (hg.v.set1 (.string x2))
  have HG2 := Lib.hid hg2
  have q0 : _ = some (.string x1 : Value) := hg2.v.at_ 0
  have q1 : _ = some (.string x2 : Value) := hg2.v.at_ 1
  have q2 : _ = some (.string ⟨#[]⟩ : Value) := hg2.v.at_ 2
  have q3 : _ = some (.bool false : Value) := hg2.v.at_ 3
  have q4 : _ = some (.slice none 0 0 : Value) := hg2.v.at_ 4
  clear hg hg2 hd HG1 HT2
  go_wp2_with fail
  generalize w3.setCell ⟨w.heap.size + 1, 1, none⟩ (.string x2) = W3 at *
  with_reducible refine (HCK.out W3 HG2.out.t).mono ?_
  rintro e w4 ⟨rfl, hb⟩
  have HG3 := Lib.hid (HG2.out.below hb)
  clear hb HG2 HCK k1 hfr q0 q1 q2 q3 q4
  go_wp2_with fail
  with_reducible refine (HFL.out w4 HG3.out.rdr).mono ?_
  rintro e w5 ⟨rfl, hd⟩
  have HG4 := Lib.hid (Gt6.did HB.out HG3.out hd)
  clear hd HG3 HFL
  go_wp2_with fail
  with_reducible refine (HER.out w5 HG4.out.rdr).mono ?_
  rintro e w6 ⟨rfl, rfl⟩
  have k0 : _ = some (.string x1 : Value) := HG4.out.v.at_ 0
  have k1 : _ = some (.string x2 : Value) := HG4.out.v.at_ 1
  have k2 : _ = some (.string ⟨#[]⟩ : Value) := HG4.out.v.at_ 2
  have k3 : _ = some (.bool false : Value) := HG4.out.v.at_ 3
  have k4 : _ = some (.slice none 0 0 : Value) := HG4.out.v.at_ 4
  have z0 : _ = some (.string ⟨#[]⟩ : Value) := Blk5.at_ HG4.out.z 0
  have z1 : _ = some (.string ⟨#[]⟩ : Value) := Blk5.at_ HG4.out.z 1
  have z2 : _ = some (.string ⟨#[]⟩ : Value) := Blk5.at_ HG4.out.z 2
  have z3 : _ = some (.bool false : Value) := Blk5.at_ HG4.out.z 3
  have z4 : _ = some (.slice none 0 0 : Value) := Blk5.at_ HG4.out.z 4
  have hfz := Blk5.free HG4.out.z
  by_cases h0 : s3.e = 0
  · have h0d : (s3.e != 0) = false := by simpa using h0
    have hans := HG4.out.answer (.string x1) (.string x2) (.string ⟨#[]⟩) (.bool false) (.slice none 0 0)
    have HANS := Lib.hid hans
    have HP : Hid (∀ w', Did w B s3 w' → Got6 w B s3 (one6 nm hs) (.returned (.agg #[.string x1, .string x2, .string ⟨#[]⟩, .bool false, .slice none 0 0])) w') := fun w' hd => ⟨none, 0, by rw [if_pos h0]; exact congrArg _ HU.out.symm, World.ownsRow_nil _ _ _ _, by simp [Value.ownBlock], hd⟩
    clear hans HU
    go_wp2
    have r0 : _ = some (.string x1 : Value) := HANS.out.2.2.at_ 0
    have r1 : _ = some (.string x2 : Value) := HANS.out.2.2.at_ 1
    have r2 : _ = some (.string ⟨#[]⟩ : Value) := HANS.out.2.2.at_ 2
    have r3 : _ = some (.bool false : Value) := HANS.out.2.2.at_ 3
    have r4 : _ = some (.slice none 0 0 : Value) := HANS.out.2.2.at_ 4
    have hfin := HP.out _ ⟨HANS.out.1, HANS.out.2.1⟩
    unfold set5 at r0 r1 r2 r3 r4 hfin
    refine bodyPost_ret (v := .agg #[.string x1, .string x2, .string ⟨#[]⟩, .bool false, .slice none 0 0]) ?_ rfl hfin
    simp [results, Tryd.results14, go_sem, r0, r1, r2, r3, r4]
  · have h0d : (s3.e != 0) = true := by simpa using h0
    have hans := HG4.out.answer (.string ⟨#[]⟩) (.string ⟨#[]⟩) (.string ⟨#[]⟩) (.bool false) (.slice none 0 0)
    have HANS := Lib.hid hans
    have HP : Hid (∀ w', Did w B s3 w' → Got6 w B s3 (one6 nm hs) (.returned (.agg #[.string ⟨#[]⟩, .string ⟨#[]⟩, .string ⟨#[]⟩, .bool false, .slice none 0 0])) w') := fun w' hd => ⟨none, 0, by rw [if_neg h0]; rfl, World.ownsRow_nil _ _ _ _, by simp [Value.ownBlock], hd⟩
    clear hans HU
    go_wp2
    have r0 : _ = some (.string ⟨#[]⟩ : Value) := HANS.out.2.2.at_ 0
    have r1 : _ = some (.string ⟨#[]⟩ : Value) := HANS.out.2.2.at_ 1
    have r2 : _ = some (.string ⟨#[]⟩ : Value) := HANS.out.2.2.at_ 2
    have r3 : _ = some (.bool false : Value) := HANS.out.2.2.at_ 3
    have r4 : _ = some (.slice none 0 0 : Value) := HANS.out.2.2.at_ 4
    have hfin := HP.out _ ⟨HANS.out.1, HANS.out.2.1⟩
    unfold set5 at r0 r1 r2 r3 r4 hfin
    refine bodyPost_ret (v := .agg #[.string ⟨#[]⟩, .string ⟨#[]⟩, .string ⟨#[]⟩, .bool false, .slice none 0 0]) ?_ rfl hfin
    simp [results, Tryd.results14, go_sem, r0, r1, r2, r3, r4]

theorem owns_facts6 {w : World} {b0 n c : Nat} {A : Option Addr} {gs : List ByteArray} (ho : w.ownsRow b0 9 1 (.slice A n c) n (gs.map Value.string)) (hn : n = gs.length) : RdS w A gs ∧ (A = none → c = 0) ∧ n ≤ c ∧ c ≤ 9223372036854775807 := by
  subst hn
  rcases ho.2 with ⟨h0, h1⟩ | ⟨g, cap, cur, hv, hb, hg, h1, h2, h3, h4⟩
  · injection h0 with ha _ hc
    subst ha hc
    have : gs = [] := List.eq_nil_of_length_eq_zero h1
    subst this
    exact ⟨fun e => absurd rfl e, fun _ => rfl, Nat.zero_le _, Nat.zero_le _⟩
  · injection hv with ha _ hc
    subst ha hc
    refine ⟨fun _ => ⟨g, 0, rfl, (Array.getElem?_eq_some_iff.1 hg).1, fun j hj => ?_⟩, (fun h => nomatch h), h1, by simpa [maxLen] using h2⟩
    have := ho.cells (g := g) rfl j (.string gs[j]) (by simp [hj])
    rw [Addr.add_lit, Nat.zero_add] at this
    rw [Nat.zero_add]
    exact this
/-- The user of the second schema. -/
def two6 (nm hs ml : List UInt8) (dis : Bool) (gs : List ByteArray) : Us := ⟨mk6 nm, mk6 hs, mk6 ml, dis, none, gs, 0⟩

set_option maxRecDepth 100000 in
set_option maxHeartbeats 4000000 in
theorem get6_two (B : Nat) (st : St) (w : World) (h : Rdr w B st) (hl : st.bs.length ≤ 1000000) (hm : Len5 w) (hBg : B ≠ 0) (nm hs ml : List UInt8) (dis : Bool) (gs : List ByteArray) (s1 s2 s3 s4 s5 s6 : St)
    (h1 : textS st 65535 = (s1, nm)) (h2 : textS s1 65535 = (s2, hs)) (h3 : textS s2 65535 = (s3, ml)) (h4 : truthS s3 = (s4, dis)) (h5 : rowS s4 65535 65535 = (s5, gs)) (h6 : failS s5 (chk6 2 (two6 nm hs ml dis gs)) = s6)
    (l1 : s1.bs.length ≤ 1000000) (l2 : s2.bs.length ≤ 1000000) (l3 : s3.bs.length ≤ 1000000) (l4 : s4.bs.length ≤ 1000000)
    (hn : nm.length ≤ 1000000) (hh : hs.length ≤ 1000000) (hml : ml.length ≤ 1000000) (hgs : ∀ s ∈ gs, s.size ≤ 1000000) :
    Calls Tryd.prog 14 #[.pointer (some ⟨B, 0, none⟩), .int .i64 2] w (Got6 w B s6 (two6 nm hs ml dis gs)) := by
  have hB := h.lt
  have HK : Hid (∀ W, Calls Tryd.prog 26 #[.int .i64 2] W fun e w' => e = .returned (.int .i64 0) ∧ w' = W) := fun W => known6_calls 2 W
  have HT1 : Hid (∀ W, Rdr W B st → Calls Tryd.prog 42 #[.pointer (some ⟨B, 0, none⟩), .int .i64 65535] W fun e w' => e = .returned (.string (mk6 nm)) ∧ Did W B s1 w') := fun W hr => by
    have := rtext_calls B st 65535 W hr (by omega)
    rw [h1] at this
    exact this
  have HT2 : Hid (∀ W, Rdr W B s1 → Calls Tryd.prog 42 #[.pointer (some ⟨B, 0, none⟩), .int .i64 65535] W fun e w' => e = .returned (.string (mk6 hs)) ∧ Did W B s2 w') := fun W hr => by
    have := rtext_calls B s1 65535 W hr (by omega)
    rw [h2] at this
    exact this
  have HT3 : Hid (∀ W, Rdr W B s2 → Calls Tryd.prog 42 #[.pointer (some ⟨B, 0, none⟩), .int .i64 65535] W fun e w' => e = .returned (.string (mk6 ml)) ∧ Did W B s3 w') := fun W hr => by
    have := rtext_calls B s2 65535 W hr (by omega)
    rw [h3] at this
    exact this
  have HT4 : Hid (∀ W, Rdr W B s3 → Calls Tryd.prog 43 #[.pointer (some ⟨B, 0, none⟩)] W fun e w' => e = .returned (.bool dis) ∧ Did W B s4 w') := fun W hr => by
    have := rtruth_calls B s3 W hr (by omega)
    rw [h4] at this
    exact this
  have HT5 : Hid (∀ W, Rdr W B s4 → Calls Tryd.prog 44 #[.pointer (some ⟨B, 0, none⟩), .int .i64 65535, .int .i64 65535] W (Rows6 W B s5 gs)) := fun W hr => by
    have := rrow6_calls B s4 65535 65535 W hr (by omega)
    rw [h5] at this
    exact this
  have HCK : Hid (∀ W A c, Turns (fun i => i = B) w W → W.ownsRow 0 9 1 (.slice A gs.length c) gs.length (gs.map Value.string) → Calls Tryd.prog 9 #[.int .i64 2, .agg #[.string (mk6 nm), .string (mk6 hs), .string (mk6 ml), .bool dis, .slice A gs.length c]] W (Errs5 (chk6 2 (two6 nm hs ml dis gs)) W)) := fun W A c ht ho => by
    obtain ⟨o1, o2, o3, o4⟩ := owns_facts6 ho rfl
    refine check6_calls 2 ⟨mk6 nm, mk6 hs, mk6 ml, dis, A, gs, c⟩ W ⟨o1, ?_, ?_, ?_, o2, o3, o4, fun s hs => Nat.le_trans (hgs s hs) (by omega)⟩ ?_
    · show nm.toArray.size ≤ _; rw [List.size_toArray]; omega
    · show hs.toArray.size ≤ _; rw [List.size_toArray]; omega
    · show ml.toArray.size ≤ _; rw [List.size_toArray]; omega
    · obtain ⟨hlt, m, hcm⟩ := hm
      exact ⟨Nat.lt_of_lt_of_le hlt ht.size, m, (ht.cell (p := ⟨0, 0, none⟩) hlt (fun e => hBg e.symm)).trans hcm⟩
  have HFL : Hid (∀ W, Rdr W B s5 → Calls Tryd.prog 41 #[.pointer (some ⟨B, 0, none⟩), .int .i64 (chk6 2 (two6 nm hs ml dis gs))] W (Void W B s6)) := fun W hr => by
    have := fail_calls B s5 (chk6 2 (two6 nm hs ml dis gs)) W hr
    rw [h6] at this
    exact this
  have HER : Hid (∀ W, Rdr W B s6 → Calls Tryd.prog 19 #[.pointer (some ⟨B, 0, none⟩)] W fun e w' => e = .returned (.int .i64 s6.e) ∧ W = w') := fun W hr => rerr_calls B s6 W hr
  have HG0 := Lib.hid (Gt6.start h)
  have HB := Lib.hid hB
  have HU : Hid (∀ A c, ({ two6 nm hs ml dis gs with ga := A, gc := c } : Us).v = .agg #[.string (mk6 nm), .string (mk6 hs), .string (mk6 ml), .bool dis, .slice A gs.length c]) := fun _ _ => rfl
  generalize chk6 2 (two6 nm hs ml dis gs) = ck at *
  clear h hl hm h1 h2 h3 h4 h5 h6 l1 l2 l3 l4 hn hh hml hgs hBg hB
  have HGS : Hid ((two6 nm hs ml dis gs).gs = gs) := rfl
  obtain ⟨u, hu⟩ : ∃ u, u = two6 nm hs ml dis gs := ⟨_, rfl⟩
  rw [← hu] at HU HGS ⊢
  clear hu
  unfold mk6 at *
  generalize (⟨nm.toArray⟩ : ByteArray) = x1 at *
  generalize (⟨hs.toArray⟩ : ByteArray) = x2 at *
  generalize (⟨ml.toArray⟩ : ByteArray) = x3 at *
  go_enter Tryd.func14, Tryd.ntmps14
  go_wp2_with fail
  with_reducible refine (HK.out _).mono ?_
  rintro e w1 ⟨rfl, rfl⟩
  go_wp2_with fail
  generalize (w.alloc (.cells #[.string ⟨#[]⟩, .string ⟨#[]⟩, .string ⟨#[]⟩, .bool false, .slice none 0 0] 24)).alloc (.cells #[.string ⟨#[]⟩, .string ⟨#[]⟩, .string ⟨#[]⟩, .bool false, .slice none 0 0] 24) = W1 at *
  with_reducible refine (HT1.out W1 HG0.out.rdr).mono ?_
  rintro e w2 ⟨rfl, hd⟩
  have hg := Gt6.did HB.out HG0.out hd
  have k0 : _ = some (.string ⟨#[]⟩ : Value) := hg.v.at_ 0
  have hfr := hg.v.free
  have HG1 := Lib.hid (hg.store (hg.v.set0 (.string x1)))
  clear hg hd HG0 HT1
  go_wp2_with fail
  generalize w2.setCell ⟨w.heap.size + 1, 0, none⟩ (.string x1) = W2 at *
  with_reducible refine (HT2.out W2 HG1.out.rdr).mono ?_
  rintro e w3 ⟨rfl, hd⟩
  have hg := Gt6.did HB.out HG1.out hd
  clear k0 hfr
  have k1 : _ = some (.string ⟨#[]⟩ : Value) := hg.v.at_ 1
  have hfr := hg.v.free
  have HG2 := Lib.hid (hg.store (hg.v.set1 (.string x2)))
  clear hg hd HG1 HT2
  go_wp2_with fail
  generalize w3.setCell ⟨w.heap.size + 1, 1, none⟩ (.string x2) = W3 at *
  with_reducible refine (HT3.out W3 HG2.out.rdr).mono ?_
  rintro e w4 ⟨rfl, hd⟩
  have hg := Gt6.did HB.out HG2.out hd
  clear k1 hfr
  have k2 : _ = some (.string ⟨#[]⟩ : Value) := hg.v.at_ 2
  have hfr := hg.v.free
  have HG3 := Lib.hid (hg.store (hg.v.set2 (.string x3)))
  clear hg hd HG2 HT3
  go_wp2_with fail
  generalize w4.setCell ⟨w.heap.size + 1, 2, none⟩ (.string x3) = W4 at *
  with_reducible refine (HT4.out W4 HG3.out.rdr).mono ?_
  rintro e w5 ⟨rfl, hd⟩
  have hg := Gt6.did HB.out HG3.out hd
  clear k2 hfr
  have k3 : _ = some (.bool false : Value) := hg.v.at_ 3
  have hfr := hg.v.free
  have HG4 := Lib.hid (hg.store (hg.v.set3 (.bool dis)))
  clear hg hd HG3 HT4
  go_wp2_with fail
  generalize w5.setCell ⟨w.heap.size + 1, 3, none⟩ (.bool dis) = W5 at *
  with_reducible refine (HT5.out W5 HG4.out.rdr).mono ?_
  rintro e w6 ⟨A, c, rfl, ho, hnw, hd⟩
  have hsz5 : w.heap.size + 1 < W5.heap.size := HG4.out.v.lt
  have hg := Gt6.did HB.out HG4.out hd
  clear k3 hfr
  have k4 : _ = some (.slice none 0 0 : Value) := hg.v.at_ 4
  have hfr := hg.v.free
  have HNW : Hid (∀ j, Value.ownBlock (.slice A gs.length c) = some j → w.heap.size + 2 ≤ j) := fun j hj => by have := hnw j hj; omega
  have HO1 : Hid ((w6.setCell ⟨w.heap.size + 1, 4, none⟩ (.slice A gs.length c)).ownsRow 0 9 1 (.slice A gs.length c) gs.length (gs.map Value.string)) :=
    ((Turns.refl (fun i => i = w.heap.size + 1) w6).setCell (p := ⟨w.heap.size + 1, 4, none⟩) (fun _ => rfl) _).owns ho (fun j hj he => by have := HNW.out j hj; omega)
  have hg2 := hg.store (hg.v.set4 (.slice A gs.length c))
  have HG5 := Lib.hid hg2
  have q0 : _ = some (.string x1 : Value) := hg2.v.at_ 0
  have q1 : _ = some (.string x2 : Value) := hg2.v.at_ 1
  have q2 : _ = some (.string x3 : Value) := hg2.v.at_ 2
  have q3 : _ = some (.bool dis : Value) := hg2.v.at_ 3
  have q4 : _ = some (.slice A gs.length c : Value) := hg2.v.at_ 4
  clear hg hg2 hd HG4 HT5 ho hnw hsz5
  go_wp2_with fail
  generalize w6.setCell ⟨w.heap.size + 1, 4, none⟩ (.slice A gs.length c) = W6 at *
  with_reducible refine (HCK.out W6 A c HG5.out.t HO1.out).mono ?_
  rintro e w7 ⟨rfl, hb⟩
  have HG6 := Lib.hid (HG5.out.below hb)
  have HO2 := Lib.hid ((Turns.of_below hb (fun _ => False)).owns HO1.out (fun _ _ f => f))
  clear hb HG5 HO1 HCK k4 hfr q0 q1 q2 q3 q4
  go_wp2_with fail
  with_reducible refine (HFL.out w7 HG6.out.rdr).mono ?_
  rintro e w8 ⟨rfl, hd⟩
  have HO3 := Lib.hid (hd.2.owns HO2.out (fun j hj he => own_ne_reader HG6.out.rdr HO2.out (by rw [hj, he])))
  have HG7 := Lib.hid (Gt6.did HB.out HG6.out hd)
  clear hd HG6 HFL HO2
  go_wp2_with fail
  with_reducible refine (HER.out w8 HG7.out.rdr).mono ?_
  rintro e w9 ⟨rfl, rfl⟩
  have k0 : _ = some (.string x1 : Value) := HG7.out.v.at_ 0
  have k1 : _ = some (.string x2 : Value) := HG7.out.v.at_ 1
  have k2 : _ = some (.string x3 : Value) := HG7.out.v.at_ 2
  have k3 : _ = some (.bool dis : Value) := HG7.out.v.at_ 3
  have k4 : _ = some (.slice A gs.length c : Value) := HG7.out.v.at_ 4
  have z0 : _ = some (.string ⟨#[]⟩ : Value) := Blk5.at_ HG7.out.z 0
  have z1 : _ = some (.string ⟨#[]⟩ : Value) := Blk5.at_ HG7.out.z 1
  have z2 : _ = some (.string ⟨#[]⟩ : Value) := Blk5.at_ HG7.out.z 2
  have z3 : _ = some (.bool false : Value) := Blk5.at_ HG7.out.z 3
  have z4 : _ = some (.slice none 0 0 : Value) := Blk5.at_ HG7.out.z 4
  have hfz := Blk5.free HG7.out.z
  have HOW : Hid (∀ a' b' c' d' e', (set5 w8 w.heap.size a' b' c' d' e').ownsRow 0 9 1 (.slice A gs.length c) gs.length (gs.map Value.string)) := fun a' b' c' d' e' =>
    (turns_set5 (Turns.refl (fun i => i = w.heap.size) w8) w.heap.size (fun _ => rfl) a' b' c' d' e').owns HO3.out (fun j hj he => by have := HNW.out j hj; omega)
  by_cases h0 : s6.e = 0
  · have h0d : (s6.e != 0) = false := by simpa using h0
    have hans := HG7.out.answer (.string x1) (.string x2) (.string x3) (.bool dis) (.slice A gs.length c)
    have HANS := Lib.hid hans
    have HP : Hid (∀ w', w'.ownsRow 0 9 1 (.slice A gs.length c) gs.length (gs.map Value.string) → Did w B s6 w' → Got6 w B s6 u (.returned (.agg #[.string x1, .string x2, .string x3, .bool dis, .slice A gs.length c])) w') := fun w' ho hd => by
      refine ⟨A, c, by rw [if_pos h0]; exact congrArg _ (HU.out A c).symm, ?_, ?_, hd⟩
      · rw [HGS.out]; exact ho
      · rw [HGS.out]; exact fun j hj => by have := HNW.out j hj; omega
    clear hans HU
    go_wp2
    have r0 : _ = some (.string x1 : Value) := HANS.out.2.2.at_ 0
    have r1 : _ = some (.string x2 : Value) := HANS.out.2.2.at_ 1
    have r2 : _ = some (.string x3 : Value) := HANS.out.2.2.at_ 2
    have r3 : _ = some (.bool dis : Value) := HANS.out.2.2.at_ 3
    have r4 : _ = some (.slice A gs.length c : Value) := HANS.out.2.2.at_ 4
    have hfin := HP.out _ (HOW.out _ _ _ _ _) ⟨HANS.out.1, HANS.out.2.1⟩
    unfold set5 at r0 r1 r2 r3 r4 hfin
    refine bodyPost_ret (v := .agg #[.string x1, .string x2, .string x3, .bool dis, .slice A gs.length c]) ?_ rfl hfin
    simp [results, Tryd.results14, go_sem, r0, r1, r2, r3, r4]
  · have h0d : (s6.e != 0) = true := by simpa using h0
    have hans := HG7.out.answer (.string ⟨#[]⟩) (.string ⟨#[]⟩) (.string ⟨#[]⟩) (.bool false) (.slice none 0 0)
    have HANS := Lib.hid hans
    have HP : Hid (∀ w', w'.ownsRow 0 9 1 (.slice A gs.length c) gs.length (gs.map Value.string) → Did w B s6 w' → Got6 w B s6 u (.returned (.agg #[.string ⟨#[]⟩, .string ⟨#[]⟩, .string ⟨#[]⟩, .bool false, .slice none 0 0])) w') := fun w' ho hd => by
      refine ⟨A, c, by rw [if_neg h0]; rfl, ?_, ?_, hd⟩
      · rw [HGS.out]; exact ho
      · rw [HGS.out]; exact fun j hj => by have := HNW.out j hj; omega
    clear hans HU
    go_wp2
    have r0 : _ = some (.string ⟨#[]⟩ : Value) := HANS.out.2.2.at_ 0
    have r1 : _ = some (.string ⟨#[]⟩ : Value) := HANS.out.2.2.at_ 1
    have r2 : _ = some (.string ⟨#[]⟩ : Value) := HANS.out.2.2.at_ 2
    have r3 : _ = some (.bool false : Value) := HANS.out.2.2.at_ 3
    have r4 : _ = some (.slice none 0 0 : Value) := HANS.out.2.2.at_ 4
    have hfin := HP.out _ (HOW.out _ _ _ _ _) ⟨HANS.out.1, HANS.out.2.1⟩
    unfold set5 at r0 r1 r2 r3 r4 hfin
    refine bodyPost_ret (v := .agg #[.string ⟨#[]⟩, .string ⟨#[]⟩, .string ⟨#[]⟩, .bool false, .slice none 0 0]) ?_ rfl hfin
    simp [results, Tryd.results14, go_sem, r0, r1, r2, r3, r4]

theorem answer6 {w W : World} {B : Nat} {st : St} (hr : Rdr W B st) (ht : Turns (fun i => i = B) w W) (hz : Zero5 W w.heap.size) (a' b' c' d' e' : Value) :
    Rdr (set5 W w.heap.size a' b' c' d' e') B st ∧ Turns (fun i => i = B) w (set5 W w.heap.size a' b' c' d' e') ∧ Blk5 (set5 W w.heap.size a' b' c' d' e') w.heap.size a' b' c' d' e' := by
  refine ⟨?_, turns_set5 ht w.heap.size (fun hl => absurd hl (by omega)) _ _ _ _ _, Blk5.set5 hz _ _ _ _ _⟩
  have h0 := rdr_apart (j := 0) hr hz a'
  have z0 := Blk5.set0 hz a'
  have h1 := rdr_apart (j := 1) h0 z0 b'
  have z1 := z0.set1 b'
  have h2 := rdr_apart (j := 2) h1 z1 c'
  have z2 := z1.set2 c'
  have h3 := rdr_apart (j := 3) h2 z2 d'
  have z3 := z2.set3 d'
  exact rdr_apart (j := 4) h3 z3 e'
set_option maxRecDepth 100000 in
set_option maxHeartbeats 2000000 in
theorem get6_none (s : Int) (B : Nat) (st : St) (w : World) (h : Rdr w B st) (hs : know6 s = false) :
    Calls Tryd.prog 14 #[.pointer (some ⟨B, 0, none⟩), .int .i64 s] w (fun e w' => e = .returned zeroU.v ∧ Did w B (failS st 6) w') := by
  have hB := h.lt
  have HK : Hid (∀ W, Calls Tryd.prog 26 #[.int .i64 s] W fun e w' => e = .returned (.int .i64 6) ∧ w' = W) := fun W => by
    have := known6_calls s W
    rw [hs] at this
    exact this
  have HFL : Hid (∀ W, Rdr W B st → Calls Tryd.prog 41 #[.pointer (some ⟨B, 0, none⟩), .int .i64 6] W (Void W B (failS st 6))) := fun W hr => fail_calls B st 6 W hr
  have HZ0 : Hid (Zero5 (w.alloc (.cells #[.string ⟨#[]⟩, .string ⟨#[]⟩, .string ⟨#[]⟩, .bool false, .slice none 0 0] 24)) w.heap.size) := heap_alloc_new w _
  have HT0 := Lib.hid ((Turns.refl (fun _ => False) w).alloc (.cells #[.string ⟨#[]⟩, .string ⟨#[]⟩, .string ⟨#[]⟩, .bool false, .slice none 0 0] 24))
  have HR0 := Lib.hid (h.still HT0.out)
  generalize failS st 6 = s3 at *
  clear h hs
  go_enter Tryd.func14, Tryd.ntmps14
  go_wp2_with fail
  with_reducible refine (HK.out _).mono ?_
  rintro e w1 ⟨rfl, rfl⟩
  go_wp2_with fail
  generalize w.alloc (.cells #[.string ⟨#[]⟩, .string ⟨#[]⟩, .string ⟨#[]⟩, .bool false, .slice none 0 0] 24) = W1 at *
  with_reducible refine (HFL.out W1 HR0.out).mono ?_
  rintro e w2 ⟨rfl, hd⟩
  have hz : Zero5 w2 w.heap.size := (hd.2.block _ (Blk5.lt HZ0.out) (by omega)).trans HZ0.out
  have ht : Turns (fun i => i = B) w w2 := (HT0.out.mono (fun _ _ f => f.elim)).next hd.2 (fun _ _ h => h)
  have hans := answer6 hd.1 ht hz (.string ⟨#[]⟩) (.string ⟨#[]⟩) (.string ⟨#[]⟩) (.bool false) (.slice none 0 0)
  have HANS := Lib.hid hans
  have z0 : _ = some (.string ⟨#[]⟩ : Value) := Blk5.at_ hz 0
  have z1 : _ = some (.string ⟨#[]⟩ : Value) := Blk5.at_ hz 1
  have z2 : _ = some (.string ⟨#[]⟩ : Value) := Blk5.at_ hz 2
  have z3 : _ = some (.bool false : Value) := Blk5.at_ hz 3
  have z4 : _ = some (.slice none 0 0 : Value) := Blk5.at_ hz 4
  have hfz := Blk5.free hz
  clear hans hd ht hz HZ0 HT0 HR0
  go_wp2
  have r0 : _ = some (.string ⟨#[]⟩ : Value) := HANS.out.2.2.at_ 0
  have r1 : _ = some (.string ⟨#[]⟩ : Value) := HANS.out.2.2.at_ 1
  have r2 : _ = some (.string ⟨#[]⟩ : Value) := HANS.out.2.2.at_ 2
  have r3 : _ = some (.bool false : Value) := HANS.out.2.2.at_ 3
  have r4 : _ = some (.slice none 0 0 : Value) := HANS.out.2.2.at_ 4
  have hfin : Did w B s3 _ := ⟨HANS.out.1, HANS.out.2.1⟩
  unfold set5 at r0 r1 r2 r3 r4 hfin
  refine bodyPost_ret (v := .agg #[.string ⟨#[]⟩, .string ⟨#[]⟩, .string ⟨#[]⟩, .bool false, .slice none 0 0]) ?_ rfl ⟨rfl, hfin⟩
  simp [results, Tryd.results14, go_sem, r0, r1, r2, r3, r4]
end Go.Proofs.YtghmcbgejeanfaaDoor

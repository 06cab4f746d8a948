/-
  The texts that the laws of this seat share, part 3: what the code and the document's own answers tell, walked function by function.
  Conditions: each theorem's own.
-/
import Derived.Laws.Concat
import Derived.Laws.Tables
import Derived.Test.YtoeepbmbfambcaaGreatDoorShotAllA
import Derived.Test.YtoeepbmbfambcaaGreatDoorShotAllB
namespace Go.Proofs.YtoeepbmbfambcaaGreatDoor
open Go.RowKit

/-- A zero user. -/
def zeroU : Us := ⟨⟨#[]⟩, ⟨#[]⟩, ⟨#[]⟩, false, none, [], 0⟩
/-- A user is told, or, with an error, a zero one. -/
def Got6 (w : World) (B : Nat) (st : St) (u : Us) (e : Ending) (w' : World) : Prop := ∃ A c, e = .returned (if st.e = 0 then ({ u with ga := A, gc := c } : Us) else zeroU).v ∧ w'.ownsRow 0 9 1 (.slice A u.gs.length c) u.gs.length (u.gs.map Value.string) ∧ (∀ j, Value.ownBlock (.slice A u.gs.length c) = some j → w.heap.size ≤ j) ∧ Did w B st w'
/-- The same, of the first schema: nothing beside the two texts. -/
def Got61 (w : World) (B : Nat) (st : St) (u : Us) (e : Ending) (w' : World) : Prop := e = .returned (if st.e = 0 then u else zeroU).v ∧ Did w B st w'
/-- The user of the first schema that two texts are. -/
def one6 (nm hs : List UInt8) : Us := ⟨mk6 nm, mk6 hs, ⟨#[]⟩, false, none, [], 0⟩

set_option maxRecDepth 100000 in
set_option maxHeartbeats 2000000 in
theorem get61_one (B : Nat) (st : St) (w : World) (h : Rdr w B st) (hl : st.bs.length ≤ 1000000) (hm : Len5 w) (hBg : B ≠ 0) (nm hs : List UInt8) (s1 s2 s3 : St) (h1 : textS st 65535 = (s1, nm)) (h2 : textS s1 65535 = (s2, hs)) (h3 : failS s2 (chk6 1 (one6 nm hs)) = s3)
    (hn : nm.length ≤ 1000000) (hh : hs.length ≤ 1000000) :
    Calls Tryz.prog 48 #[.pointer (some ⟨B, 0, none⟩), .int .i64 1] w (Got61 w B s3 (one6 nm hs)) := by
  have hB := h.lt
  have HK : Hid (∀ W, Calls Tryz.prog 66 #[.int .i64 1] W fun e w' => e = .returned (.int .i64 0) ∧ w' = W) := fun W => known6_calls 1 W
  have HT1 : Hid (∀ W, Rdr W B st → Calls Tryz.prog 75 #[.pointer (some ⟨B, 0, none⟩), .int .i64 65535] W fun e w' => e = .returned (.string (mk6 nm)) ∧ Did W B s1 w') := fun W hr => by
    have := rtext_calls B st 65535 W hr (by omega)
    rw [h1] at this
    exact this
  have hl1 : s1.bs.length ≤ 1000000 := by have := textS_left st 65535; rw [h1] at this; simp only at this; omega
  have HT2 : Hid (∀ W, Rdr W B s1 → Calls Tryz.prog 75 #[.pointer (some ⟨B, 0, none⟩), .int .i64 65535] W fun e w' => e = .returned (.string (mk6 hs)) ∧ Did W B s2 w') := fun W hr => by
    have := rtext_calls B s1 65535 W hr (by omega)
    rw [h2] at this
    exact this
  have HCK : Hid (∀ W, Turns (fun i => i = B) w W → Calls Tryz.prog 41 #[.int .i64 1, .agg #[.string (mk6 nm), .string (mk6 hs), .string ⟨#[]⟩, .bool false, .slice none 0 0]] W (Errs5 (chk6 1 (one6 nm hs)) W)) := fun W ht => by
    refine check6_calls 1 (one6 nm hs) W ⟨fun e => absurd rfl e, ?_, ?_, Nat.zero_le _, fun _ => rfl, Nat.zero_le _, Nat.zero_le _, fun s hs => by cases hs⟩ ?_
    · show nm.toArray.size ≤ _; rw [List.size_toArray]; omega
    · show hs.toArray.size ≤ _; rw [List.size_toArray]; omega
    · obtain ⟨hlt, m, hcm⟩ := hm
      exact ⟨Nat.lt_of_lt_of_le hlt ht.size, m, (ht.cell (p := ⟨0, 0, none⟩) hlt (fun e => hBg e.symm)).trans hcm⟩
  have HFL : Hid (∀ W, Rdr W B s2 → Calls Tryz.prog 47 #[.pointer (some ⟨B, 0, none⟩), .int .i64 (chk6 1 (one6 nm hs))] W (Void W B s3)) := fun W hr => by
    have := fail_calls B s2 (chk6 1 (one6 nm hs)) W hr
    rw [h3] at this
    exact this
  have HER : Hid (∀ W, Rdr W B s3 → Calls Tryz.prog 28 #[.pointer (some ⟨B, 0, none⟩)] W fun e w' => e = .returned (.int .i64 s3.e) ∧ W = w') := fun W hr => rerr_calls B s3 W hr
  have HG0 := Lib.hid (Gt6.start h)
  have HB := Lib.hid hB
  have HU : Hid ((one6 nm hs).v = .agg #[.string (mk6 nm), .string (mk6 hs), .string ⟨#[]⟩, .bool false, .slice none 0 0]) := rfl
  generalize chk6 1 (one6 nm hs) = ck at *
  clear h hl hm h1 h2 h3 hn hh hl1 hBg hB
  unfold mk6 at *
  generalize (⟨nm.toArray⟩ : ByteArray) = x1 at *
  generalize (⟨hs.toArray⟩ : ByteArray) = x2 at *
  go_enter Tryz.func48, Tryz.ntmps48
  go_wp2_with fail
  with_reducible refine (HK.out _).mono ?_
  rintro e w1 ⟨rfl, rfl⟩
  go_wp2_with fail
  generalize (w.alloc (.cells #[.string ⟨#[]⟩, .string ⟨#[]⟩, .string ⟨#[]⟩, .bool false, .slice none 0 0] 43)).alloc (.cells #[.string ⟨#[]⟩, .string ⟨#[]⟩, .string ⟨#[]⟩, .bool false, .slice none 0 0] 43) = W1 at *
  with_reducible refine (HT1.out W1 HG0.out.rdr).mono ?_
  rintro e w2 ⟨rfl, hd⟩
  have hg := Gt6.did HB.out HG0.out hd
  have k0 : _ = some (.string ⟨#[]⟩ : Value) := hg.v.at_ 0
  have hfr := hg.v.free
  have HG1 := Lib.hid (hg.store (hg.v.set0 (.string x1)))
  clear hg hd HG0 HT1
  go_wp2_with fail
  generalize w2.setCell ⟨w.heap.size + 1, 0, none⟩ (.string x1) = W2 at *
  with_reducible refine (HT2.out W2 HG1.out.rdr).mono ?_
  rintro e w3 ⟨rfl, hd⟩
  have hg := Gt6.did HB.out HG1.out hd
  clear k0 hfr
  have k1 : _ = some (.string ⟨#[]⟩ : Value) := hg.v.at_ 1
  have hfr := hg.v.free
  have hg2 := hg.store (hg.v.set1 (.string x2))
  have HG2 := Lib.hid hg2
  have q0 : _ = some (.string x1 : Value) := hg2.v.at_ 0
  have q1 : _ = some (.string x2 : Value) := hg2.v.at_ 1
  have q2 : _ = some (.string ⟨#[]⟩ : Value) := hg2.v.at_ 2
  have q3 : _ = some (.bool false : Value) := hg2.v.at_ 3
  have q4 : _ = some (.slice none 0 0 : Value) := hg2.v.at_ 4
  clear hg hg2 hd HG1 HT2
  go_wp2_with fail
  generalize w3.setCell ⟨w.heap.size + 1, 1, none⟩ (.string x2) = W3 at *
  with_reducible refine (HCK.out W3 HG2.out.t).mono ?_
  rintro e w4 ⟨rfl, hb⟩
  have HG3 := Lib.hid (HG2.out.below hb)
  clear hb HG2 HCK k1 hfr q0 q1 q2 q3 q4
  go_wp2_with fail
  with_reducible refine (HFL.out w4 HG3.out.rdr).mono ?_
  rintro e w5 ⟨rfl, hd⟩
  have HG4 := Lib.hid (Gt6.did HB.out HG3.out hd)
  clear hd HG3 HFL
  go_wp2_with fail
  with_reducible refine (HER.out w5 HG4.out.rdr).mono ?_
  rintro e w6 ⟨rfl, rfl⟩
  have k0 : _ = some (.string x1 : Value) := HG4.out.v.at_ 0
  have k1 : _ = some (.string x2 : Value) := HG4.out.v.at_ 1
  have k2 : _ = some (.string ⟨#[]⟩ : Value) := HG4.out.v.at_ 2
  have k3 : _ = some (.bool false : Value) := HG4.out.v.at_ 3
  have k4 : _ = some (.slice none 0 0 : Value) := HG4.out.v.at_ 4
  have z0 : _ = some (.string ⟨#[]⟩ : Value) := Blk5.at_ HG4.out.z 0
  have z1 : _ = some (.string ⟨#[]⟩ : Value) := Blk5.at_ HG4.out.z 1
  have z2 : _ = some (.string ⟨#[]⟩ : Value) := Blk5.at_ HG4.out.z 2
  have z3 : _ = some (.bool false : Value) := Blk5.at_ HG4.out.z 3
  have z4 : _ = some (.slice none 0 0 : Value) := Blk5.at_ HG4.out.z 4
  have hfz := Blk5.free HG4.out.z
  by_cases h0 : s3.e = 0
  · have h0d : (s3.e != 0) = false := by simpa using h0
    have hans := HG4.out.answer (.string x1) (.string x2) (.string ⟨#[]⟩) (.bool false) (.slice none 0 0)
    have HANS := Lib.hid hans
    have HP : Hid (∀ w', Did w B s3 w' → Got61 w B s3 (one6 nm hs) (.returned (.agg #[.string x1, .string x2, .string ⟨#[]⟩, .bool false, .slice none 0 0])) w') := fun w' hd => ⟨by rw [if_pos h0]; exact congrArg _ HU.out.symm, hd⟩
    clear hans HU
    go_wp2
    have r0 : _ = some (.string x1 : Value) := HANS.out.2.2.at_ 0
    have r1 : _ = some (.string x2 : Value) := HANS.out.2.2.at_ 1
    have r2 : _ = some (.string ⟨#[]⟩ : Value) := HANS.out.2.2.at_ 2
    have r3 : _ = some (.bool false : Value) := HANS.out.2.2.at_ 3
    have r4 : _ = some (.slice none 0 0 : Value) := HANS.out.2.2.at_ 4
    have hfin := HP.out _ ⟨HANS.out.1, HANS.out.2.1⟩
    unfold set5 at r0 r1 r2 r3 r4 hfin
    refine bodyPost_ret (v := .agg #[.string x1, .string x2, .string ⟨#[]⟩, .bool false, .slice none 0 0]) ?_ rfl hfin
    simp [results, Tryz.results48, go_sem, r0, r1, r2, r3, r4]
  · have h0d : (s3.e != 0) = true := by simpa using h0
    have hans := HG4.out.answer (.string ⟨#[]⟩) (.string ⟨#[]⟩) (.string ⟨#[]⟩) (.bool false) (.slice none 0 0)
    have HANS := Lib.hid hans
    have HP : Hid (∀ w', Did w B s3 w' → Got61 w B s3 (one6 nm hs) (.returned (.agg #[.string ⟨#[]⟩, .string ⟨#[]⟩, .string ⟨#[]⟩, .bool false, .slice none 0 0])) w') := fun w' hd => ⟨by rw [if_neg h0]; rfl, hd⟩
    clear hans HU
    go_wp2
    have r0 : _ = some (.string ⟨#[]⟩ : Value) := HANS.out.2.2.at_ 0
    have r1 : _ = some (.string ⟨#[]⟩ : Value) := HANS.out.2.2.at_ 1
    have r2 : _ = some (.string ⟨#[]⟩ : Value) := HANS.out.2.2.at_ 2
    have r3 : _ = some (.bool false : Value) := HANS.out.2.2.at_ 3
    have r4 : _ = some (.slice none 0 0 : Value) := HANS.out.2.2.at_ 4
    have hfin := HP.out _ ⟨HANS.out.1, HANS.out.2.1⟩
    unfold set5 at r0 r1 r2 r3 r4 hfin
    refine bodyPost_ret (v := .agg #[.string ⟨#[]⟩, .string ⟨#[]⟩, .string ⟨#[]⟩, .bool false, .slice none 0 0]) ?_ rfl hfin
    simp [results, Tryz.results48, go_sem, r0, r1, r2, r3, r4]
theorem get6_one (B : Nat) (st : St) (w : World) (h : Rdr w B st) (hl : st.bs.length ≤ 1000000) (hm : Len5 w) (hBg : B ≠ 0) (nm hs : List UInt8) (s1 s2 s3 : St) (h1 : textS st 65535 = (s1, nm)) (h2 : textS s1 65535 = (s2, hs)) (h3 : failS s2 (chk6 1 (one6 nm hs)) = s3)
    (hn : nm.length ≤ 1000000) (hh : hs.length ≤ 1000000) :
    Calls Tryz.prog 48 #[.pointer (some ⟨B, 0, none⟩), .int .i64 1] w (Got6 w B s3 (one6 nm hs)) :=
  (get61_one B st w h hl hm hBg nm hs s1 s2 s3 h1 h2 h3 hn hh).mono fun e w' ⟨he, hd⟩ => ⟨none, 0, he, World.ownsRow_nil _ _ _ _, by simp [Value.ownBlock], hd⟩

theorem owns_facts6 {w : World} {b0 n c : Nat} {A : Option Addr} {gs : List ByteArray} (ho : w.ownsRow b0 9 1 (.slice A n c) n (gs.map Value.string)) (hn : n = gs.length) : RdS w A gs ∧ (A = none → c = 0) ∧ n ≤ c ∧ c ≤ 9223372036854775807 := by
  subst hn
  rcases ho.2 with ⟨h0, h1⟩ | ⟨g, cap, cur, hv, hb, hg, h1, h2, h3, h4⟩
  · injection h0 with ha _ hc
    subst ha hc
    have : gs = [] := List.eq_nil_of_length_eq_zero h1
    subst this
    exact ⟨fun e => absurd rfl e, fun _ => rfl, Nat.zero_le _, Nat.zero_le _⟩
  · injection hv with ha _ hc
    subst ha hc
    refine ⟨fun _ => ⟨g, 0, rfl, (Array.getElem?_eq_some_iff.1 hg).1, fun j hj => ?_⟩, (fun h => nomatch h), h1, by simpa [maxLen] using h2⟩
    have := ho.cells (g := g) rfl j (.string gs[j]) (by simp [hj])
    rw [Addr.add_lit, Nat.zero_add] at this
    rw [Nat.zero_add]
    exact this
/-- The user of the second schema. -/
def two6 (nm hs ml : List UInt8) (dis : Bool) (gs : List ByteArray) : Us := ⟨mk6 nm, mk6 hs, mk6 ml, dis, none, gs, 0⟩

set_option maxRecDepth 100000 in
set_option maxHeartbeats 4000000 in
theorem get6_two (B : Nat) (st : St) (w : World) (h : Rdr w B st) (hl : st.bs.length ≤ 1000000) (hm : Len5 w) (hBg : B ≠ 0) (nm hs ml : List UInt8) (dis : Bool) (gs : List ByteArray) (s1 s2 s3 s4 s5 s6 : St)
    (h1 : textS st 65535 = (s1, nm)) (h2 : textS s1 65535 = (s2, hs)) (h3 : textS s2 65535 = (s3, ml)) (h4 : truthS s3 = (s4, dis)) (h5 : rowS s4 65535 65535 = (s5, gs)) (h6 : failS s5 (chk6 2 (two6 nm hs ml dis gs)) = s6)
    (l1 : s1.bs.length ≤ 1000000) (l2 : s2.bs.length ≤ 1000000) (l3 : s3.bs.length ≤ 1000000) (l4 : s4.bs.length ≤ 1000000)
    (hn : nm.length ≤ 1000000) (hh : hs.length ≤ 1000000) (hml : ml.length ≤ 1000000) (hgs : ∀ s ∈ gs, s.size ≤ 1000000) :
    Calls Tryz.prog 48 #[.pointer (some ⟨B, 0, none⟩), .int .i64 2] w (Got6 w B s6 (two6 nm hs ml dis gs)) := by
  have hB := h.lt
  have HK : Hid (∀ W, Calls Tryz.prog 66 #[.int .i64 2] W fun e w' => e = .returned (.int .i64 0) ∧ w' = W) := fun W => known6_calls 2 W
  have HT1 : Hid (∀ W, Rdr W B st → Calls Tryz.prog 75 #[.pointer (some ⟨B, 0, none⟩), .int .i64 65535] W fun e w' => e = .returned (.string (mk6 nm)) ∧ Did W B s1 w') := fun W hr => by
    have := rtext_calls B st 65535 W hr (by omega)
    rw [h1] at this
    exact this
  have HT2 : Hid (∀ W, Rdr W B s1 → Calls Tryz.prog 75 #[.pointer (some ⟨B, 0, none⟩), .int .i64 65535] W fun e w' => e = .returned (.string (mk6 hs)) ∧ Did W B s2 w') := fun W hr => by
    have := rtext_calls B s1 65535 W hr (by omega)
    rw [h2] at this
    exact this
  have HT3 : Hid (∀ W, Rdr W B s2 → Calls Tryz.prog 75 #[.pointer (some ⟨B, 0, none⟩), .int .i64 65535] W fun e w' => e = .returned (.string (mk6 ml)) ∧ Did W B s3 w') := fun W hr => by
    have := rtext_calls B s2 65535 W hr (by omega)
    rw [h3] at this
    exact this
  have HT4 : Hid (∀ W, Rdr W B s3 → Calls Tryz.prog 76 #[.pointer (some ⟨B, 0, none⟩)] W fun e w' => e = .returned (.bool dis) ∧ Did W B s4 w') := fun W hr => by
    have := rtruth_calls B s3 W hr (by omega)
    rw [h4] at this
    exact this
  have HT5 : Hid (∀ W, Rdr W B s4 → Calls Tryz.prog 77 #[.pointer (some ⟨B, 0, none⟩), .int .i64 65535, .int .i64 65535] W (Rows6 W B s5 gs)) := fun W hr => by
    have := rrow6_calls B s4 65535 65535 W hr (by omega)
    rw [h5] at this
    exact this
  have HCK : Hid (∀ W A c, Turns (fun i => i = B) w W → W.ownsRow 0 9 1 (.slice A gs.length c) gs.length (gs.map Value.string) → Calls Tryz.prog 41 #[.int .i64 2, .agg #[.string (mk6 nm), .string (mk6 hs), .string (mk6 ml), .bool dis, .slice A gs.length c]] W (Errs5 (chk6 2 (two6 nm hs ml dis gs)) W)) := fun W A c ht ho => by
    obtain ⟨o1, o2, o3, o4⟩ := owns_facts6 ho rfl
    refine check6_calls 2 ⟨mk6 nm, mk6 hs, mk6 ml, dis, A, gs, c⟩ W ⟨o1, ?_, ?_, ?_, o2, o3, o4, fun s hs => Nat.le_trans (hgs s hs) (by omega)⟩ ?_
    · show nm.toArray.size ≤ _; rw [List.size_toArray]; omega
    · show hs.toArray.size ≤ _; rw [List.size_toArray]; omega
    · show ml.toArray.size ≤ _; rw [List.size_toArray]; omega
    · obtain ⟨hlt, m, hcm⟩ := hm
      exact ⟨Nat.lt_of_lt_of_le hlt ht.size, m, (ht.cell (p := ⟨0, 0, none⟩) hlt (fun e => hBg e.symm)).trans hcm⟩
  have HFL : Hid (∀ W, Rdr W B s5 → Calls Tryz.prog 47 #[.pointer (some ⟨B, 0, none⟩), .int .i64 (chk6 2 (two6 nm hs ml dis gs))] W (Void W B s6)) := fun W hr => by
    have := fail_calls B s5 (chk6 2 (two6 nm hs ml dis gs)) W hr
    rw [h6] at this
    exact this
  have HER : Hid (∀ W, Rdr W B s6 → Calls Tryz.prog 28 #[.pointer (some ⟨B, 0, none⟩)] W fun e w' => e = .returned (.int .i64 s6.e) ∧ W = w') := fun W hr => rerr_calls B s6 W hr
  have HG0 := Lib.hid (Gt6.start h)
  have HB := Lib.hid hB
  have HU : Hid (∀ A c, ({ two6 nm hs ml dis gs with ga := A, gc := c } : Us).v = .agg #[.string (mk6 nm), .string (mk6 hs), .string (mk6 ml), .bool dis, .slice A gs.length c]) := fun _ _ => rfl
  generalize chk6 2 (two6 nm hs ml dis gs) = ck at *
  clear h hl hm h1 h2 h3 h4 h5 h6 l1 l2 l3 l4 hn hh hml hgs hBg hB
  have HGS : Hid ((two6 nm hs ml dis gs).gs = gs) := rfl
  obtain ⟨u, hu⟩ : ∃ u, u = two6 nm hs ml dis gs := ⟨_, rfl⟩
  rw [← hu] at HU HGS ⊢
  clear hu
  unfold mk6 at *
  generalize (⟨nm.toArray⟩ : ByteArray) = x1 at *
  generalize (⟨hs.toArray⟩ : ByteArray) = x2 at *
  generalize (⟨ml.toArray⟩ : ByteArray) = x3 at *
  go_enter Tryz.func48, Tryz.ntmps48
  go_wp2_with fail
  with_reducible refine (HK.out _).mono ?_
  rintro e w1 ⟨rfl, rfl⟩
  go_wp2_with fail
  generalize (w.alloc (.cells #[.string ⟨#[]⟩, .string ⟨#[]⟩, .string ⟨#[]⟩, .bool false, .slice none 0 0] 43)).alloc (.cells #[.string ⟨#[]⟩, .string ⟨#[]⟩, .string ⟨#[]⟩, .bool false, .slice none 0 0] 43) = W1 at *
  with_reducible refine (HT1.out W1 HG0.out.rdr).mono ?_
  rintro e w2 ⟨rfl, hd⟩
  have hg := Gt6.did HB.out HG0.out hd
  have k0 : _ = some (.string ⟨#[]⟩ : Value) := hg.v.at_ 0
  have hfr := hg.v.free
  have HG1 := Lib.hid (hg.store (hg.v.set0 (.string x1)))
  clear hg hd HG0 HT1
  go_wp2_with fail
  generalize w2.setCell ⟨w.heap.size + 1, 0, none⟩ (.string x1) = W2 at *
  with_reducible refine (HT2.out W2 HG1.out.rdr).mono ?_
  rintro e w3 ⟨rfl, hd⟩
  have hg := Gt6.did HB.out HG1.out hd
  clear k0 hfr
  have k1 : _ = some (.string ⟨#[]⟩ : Value) := hg.v.at_ 1
  have hfr := hg.v.free
  have HG2 := Lib.hid (hg.store (hg.v.set1 (.string x2)))
  clear hg hd HG1 HT2
  go_wp2_with fail
  generalize w3.setCell ⟨w.heap.size + 1, 1, none⟩ (.string x2) = W3 at *
  with_reducible refine (HT3.out W3 HG2.out.rdr).mono ?_
  rintro e w4 ⟨rfl, hd⟩
  have hg := Gt6.did HB.out HG2.out hd
  clear k1 hfr
  have k2 : _ = some (.string ⟨#[]⟩ : Value) := hg.v.at_ 2
  have hfr := hg.v.free
  have HG3 := Lib.hid (hg.store (hg.v.set2 (.string x3)))
  clear hg hd HG2 HT3
  go_wp2_with fail
  generalize w4.setCell ⟨w.heap.size + 1, 2, none⟩ (.string x3) = W4 at *
  with_reducible refine (HT4.out W4 HG3.out.rdr).mono ?_
  rintro e w5 ⟨rfl, hd⟩
  have hg := Gt6.did HB.out HG3.out hd
  clear k2 hfr
  have k3 : _ = some (.bool false : Value) := hg.v.at_ 3
  have hfr := hg.v.free
  have HG4 := Lib.hid (hg.store (hg.v.set3 (.bool dis)))
  clear hg hd HG3 HT4
  go_wp2_with fail
  generalize w5.setCell ⟨w.heap.size + 1, 3, none⟩ (.bool dis) = W5 at *
  with_reducible refine (HT5.out W5 HG4.out.rdr).mono ?_
  rintro e w6 ⟨A, c, rfl, ho, hnw, hd⟩
  have hsz5 : w.heap.size + 1 < W5.heap.size := HG4.out.v.lt
  have hg := Gt6.did HB.out HG4.out hd
  clear k3 hfr
  have k4 : _ = some (.slice none 0 0 : Value) := hg.v.at_ 4
  have hfr := hg.v.free
  have HNW : Hid (∀ j, Value.ownBlock (.slice A gs.length c) = some j → w.heap.size + 2 ≤ j) := fun j hj => by have := hnw j hj; omega
  have HO1 : Hid ((w6.setCell ⟨w.heap.size + 1, 4, none⟩ (.slice A gs.length c)).ownsRow 0 9 1 (.slice A gs.length c) gs.length (gs.map Value.string)) :=
    ((Turns.refl (fun i => i = w.heap.size + 1) w6).setCell (p := ⟨w.heap.size + 1, 4, none⟩) (fun _ => rfl) _).owns ho (fun j hj he => by have := HNW.out j hj; omega)
  have hg2 := hg.store (hg.v.set4 (.slice A gs.length c))
  have HG5 := Lib.hid hg2
  have q0 : _ = some (.string x1 : Value) := hg2.v.at_ 0
  have q1 : _ = some (.string x2 : Value) := hg2.v.at_ 1
  have q2 : _ = some (.string x3 : Value) := hg2.v.at_ 2
  have q3 : _ = some (.bool dis : Value) := hg2.v.at_ 3
  have q4 : _ = some (.slice A gs.length c : Value) := hg2.v.at_ 4
  clear hg hg2 hd HG4 HT5 ho hnw hsz5
  go_wp2_with fail
  generalize w6.setCell ⟨w.heap.size + 1, 4, none⟩ (.slice A gs.length c) = W6 at *
  with_reducible refine (HCK.out W6 A c HG5.out.t HO1.out).mono ?_
  rintro e w7 ⟨rfl, hb⟩
  have HG6 := Lib.hid (HG5.out.below hb)
  have HO2 := Lib.hid ((Turns.of_below hb (fun _ => False)).owns HO1.out (fun _ _ f => f))
  clear hb HG5 HO1 HCK k4 hfr q0 q1 q2 q3 q4
  go_wp2_with fail
  with_reducible refine (HFL.out w7 HG6.out.rdr).mono ?_
  rintro e w8 ⟨rfl, hd⟩
  have HO3 := Lib.hid (hd.2.owns HO2.out (fun j hj he => own_ne_reader HG6.out.rdr HO2.out (by rw [hj, he])))
  have HG7 := Lib.hid (Gt6.did HB.out HG6.out hd)
  clear hd HG6 HFL HO2
  go_wp2_with fail
  with_reducible refine (HER.out w8 HG7.out.rdr).mono ?_
  rintro e w9 ⟨rfl, rfl⟩
  have k0 : _ = some (.string x1 : Value) := HG7.out.v.at_ 0
  have k1 : _ = some (.string x2 : Value) := HG7.out.v.at_ 1
  have k2 : _ = some (.string x3 : Value) := HG7.out.v.at_ 2
  have k3 : _ = some (.bool dis : Value) := HG7.out.v.at_ 3
  have k4 : _ = some (.slice A gs.length c : Value) := HG7.out.v.at_ 4
  have z0 : _ = some (.string ⟨#[]⟩ : Value) := Blk5.at_ HG7.out.z 0
  have z1 : _ = some (.string ⟨#[]⟩ : Value) := Blk5.at_ HG7.out.z 1
  have z2 : _ = some (.string ⟨#[]⟩ : Value) := Blk5.at_ HG7.out.z 2
  have z3 : _ = some (.bool false : Value) := Blk5.at_ HG7.out.z 3
  have z4 : _ = some (.slice none 0 0 : Value) := Blk5.at_ HG7.out.z 4
  have hfz := Blk5.free HG7.out.z
  have HOW : Hid (∀ a' b' c' d' e', (set5 w8 w.heap.size a' b' c' d' e').ownsRow 0 9 1 (.slice A gs.length c) gs.length (gs.map Value.string)) := fun a' b' c' d' e' =>
    (turns_set5 (Turns.refl (fun i => i = w.heap.size) w8) w.heap.size (fun _ => rfl) a' b' c' d' e').owns HO3.out (fun j hj he => by have := HNW.out j hj; omega)
  by_cases h0 : s6.e = 0
  · have h0d : (s6.e != 0) = false := by simpa using h0
    have hans := HG7.out.answer (.string x1) (.string x2) (.string x3) (.bool dis) (.slice A gs.length c)
    have HANS := Lib.hid hans
    have HP : Hid (∀ w', w'.ownsRow 0 9 1 (.slice A gs.length c) gs.length (gs.map Value.string) → Did w B s6 w' → Got6 w B s6 u (.returned (.agg #[.string x1, .string x2, .string x3, .bool dis, .slice A gs.length c])) w') := fun w' ho hd => by
      refine ⟨A, c, by rw [if_pos h0]; exact congrArg _ (HU.out A c).symm, ?_, ?_, hd⟩
      · rw [HGS.out]; exact ho
      · rw [HGS.out]; exact fun j hj => by have := HNW.out j hj; omega
    clear hans HU
    go_wp2
    have r0 : _ = some (.string x1 : Value) := HANS.out.2.2.at_ 0
    have r1 : _ = some (.string x2 : Value) := HANS.out.2.2.at_ 1
    have r2 : _ = some (.string x3 : Value) := HANS.out.2.2.at_ 2
    have r3 : _ = some (.bool dis : Value) := HANS.out.2.2.at_ 3
    have r4 : _ = some (.slice A gs.length c : Value) := HANS.out.2.2.at_ 4
    have hfin := HP.out _ (HOW.out _ _ _ _ _) ⟨HANS.out.1, HANS.out.2.1⟩
    unfold set5 at r0 r1 r2 r3 r4 hfin
    refine bodyPost_ret (v := .agg #[.string x1, .string x2, .string x3, .bool dis, .slice A gs.length c]) ?_ rfl hfin
    simp [results, Tryz.results48, go_sem, r0, r1, r2, r3, r4]
  · have h0d : (s6.e != 0) = true := by simpa using h0
    have hans := HG7.out.answer (.string ⟨#[]⟩) (.string ⟨#[]⟩) (.string ⟨#[]⟩) (.bool false) (.slice none 0 0)
    have HANS := Lib.hid hans
    have HP : Hid (∀ w', w'.ownsRow 0 9 1 (.slice A gs.length c) gs.length (gs.map Value.string) → Did w B s6 w' → Got6 w B s6 u (.returned (.agg #[.string ⟨#[]⟩, .string ⟨#[]⟩, .string ⟨#[]⟩, .bool false, .slice none 0 0])) w') := fun w' ho hd => by
      refine ⟨A, c, by rw [if_neg h0]; rfl, ?_, ?_, hd⟩
      · rw [HGS.out]; exact ho
      · rw [HGS.out]; exact fun j hj => by have := HNW.out j hj; omega
    clear hans HU
    go_wp2
    have r0 : _ = some (.string ⟨#[]⟩ : Value) := HANS.out.2.2.at_ 0
    have r1 : _ = some (.string ⟨#[]⟩ : Value) := HANS.out.2.2.at_ 1
    have r2 : _ = some (.string ⟨#[]⟩ : Value) := HANS.out.2.2.at_ 2
    have r3 : _ = some (.bool false : Value) := HANS.out.2.2.at_ 3
    have r4 : _ = some (.slice none 0 0 : Value) := HANS.out.2.2.at_ 4
    have hfin := HP.out _ (HOW.out _ _ _ _ _) ⟨HANS.out.1, HANS.out.2.1⟩
    unfold set5 at r0 r1 r2 r3 r4 hfin
    refine bodyPost_ret (v := .agg #[.string ⟨#[]⟩, .string ⟨#[]⟩, .string ⟨#[]⟩, .bool false, .slice none 0 0]) ?_ rfl hfin
    simp [results, Tryz.results48, go_sem, r0, r1, r2, r3, r4]

theorem answer6 {w W : World} {B : Nat} {st : St} (hr : Rdr W B st) (ht : Turns (fun i => i = B) w W) (hz : Zero5 W w.heap.size) (a' b' c' d' e' : Value) :
    Rdr (set5 W w.heap.size a' b' c' d' e') B st ∧ Turns (fun i => i = B) w (set5 W w.heap.size a' b' c' d' e') ∧ Blk5 (set5 W w.heap.size a' b' c' d' e') w.heap.size a' b' c' d' e' := by
  refine ⟨?_, turns_set5 ht w.heap.size (fun hl => absurd hl (by omega)) _ _ _ _ _, Blk5.set5 hz _ _ _ _ _⟩
  have h0 := rdr_apart (j := 0) hr hz a'
  have z0 := Blk5.set0 hz a'
  have h1 := rdr_apart (j := 1) h0 z0 b'
  have z1 := z0.set1 b'
  have h2 := rdr_apart (j := 2) h1 z1 c'
  have z2 := z1.set2 c'
  have h3 := rdr_apart (j := 3) h2 z2 d'
  have z3 := z2.set3 d'
  exact rdr_apart (j := 4) h3 z3 e'
set_option maxRecDepth 100000 in
set_option maxHeartbeats 2000000 in
theorem get6_none (s : Int) (B : Nat) (st : St) (w : World) (h : Rdr w B st) (hs : know6 s = false) :
    Calls Tryz.prog 48 #[.pointer (some ⟨B, 0, none⟩), .int .i64 s] w (fun e w' => e = .returned zeroU.v ∧ Did w B (failS st 6) w') := by
  have hB := h.lt
  have HK : Hid (∀ W, Calls Tryz.prog 66 #[.int .i64 s] W fun e w' => e = .returned (.int .i64 6) ∧ w' = W) := fun W => by
    have := known6_calls s W
    rw [hs] at this
    exact this
  have HFL : Hid (∀ W, Rdr W B st → Calls Tryz.prog 47 #[.pointer (some ⟨B, 0, none⟩), .int .i64 6] W (Void W B (failS st 6))) := fun W hr => fail_calls B st 6 W hr
  have HZ0 : Hid (Zero5 (w.alloc (.cells #[.string ⟨#[]⟩, .string ⟨#[]⟩, .string ⟨#[]⟩, .bool false, .slice none 0 0] 43)) w.heap.size) := heap_alloc_new w _
  have HT0 := Lib.hid ((Turns.refl (fun _ => False) w).alloc (.cells #[.string ⟨#[]⟩, .string ⟨#[]⟩, .string ⟨#[]⟩, .bool false, .slice none 0 0] 43))
  have HR0 := Lib.hid (h.still HT0.out)
  generalize failS st 6 = s3 at *
  clear h hs
  go_enter Tryz.func48, Tryz.ntmps48
  go_wp2_with fail
  with_reducible refine (HK.out _).mono ?_
  rintro e w1 ⟨rfl, rfl⟩
  go_wp2_with fail
  generalize w.alloc (.cells #[.string ⟨#[]⟩, .string ⟨#[]⟩, .string ⟨#[]⟩, .bool false, .slice none 0 0] 43) = W1 at *
  with_reducible refine (HFL.out W1 HR0.out).mono ?_
  rintro e w2 ⟨rfl, hd⟩
  have hz : Zero5 w2 w.heap.size := (hd.2.block _ (Blk5.lt HZ0.out) (by omega)).trans HZ0.out
  have ht : Turns (fun i => i = B) w w2 := (HT0.out.mono (fun _ _ f => f.elim)).next hd.2 (fun _ _ h => h)
  have hans := answer6 hd.1 ht hz (.string ⟨#[]⟩) (.string ⟨#[]⟩) (.string ⟨#[]⟩) (.bool false) (.slice none 0 0)
  have HANS := Lib.hid hans
  have z0 : _ = some (.string ⟨#[]⟩ : Value) := Blk5.at_ hz 0
  have z1 : _ = some (.string ⟨#[]⟩ : Value) := Blk5.at_ hz 1
  have z2 : _ = some (.string ⟨#[]⟩ : Value) := Blk5.at_ hz 2
  have z3 : _ = some (.bool false : Value) := Blk5.at_ hz 3
  have z4 : _ = some (.slice none 0 0 : Value) := Blk5.at_ hz 4
  have hfz := Blk5.free hz
  clear hans hd ht hz HZ0 HT0 HR0
  go_wp2
  have r0 : _ = some (.string ⟨#[]⟩ : Value) := HANS.out.2.2.at_ 0
  have r1 : _ = some (.string ⟨#[]⟩ : Value) := HANS.out.2.2.at_ 1
  have r2 : _ = some (.string ⟨#[]⟩ : Value) := HANS.out.2.2.at_ 2
  have r3 : _ = some (.bool false : Value) := HANS.out.2.2.at_ 3
  have r4 : _ = some (.slice none 0 0 : Value) := HANS.out.2.2.at_ 4
  have hfin : Did w B s3 _ := ⟨HANS.out.1, HANS.out.2.1⟩
  unfold set5 at r0 r1 r2 r3 r4 hfin
  refine bodyPost_ret (v := .agg #[.string ⟨#[]⟩, .string ⟨#[]⟩, .string ⟨#[]⟩, .bool false, .slice none 0 0]) ?_ rfl ⟨rfl, hfin⟩
  simp [results, Tryz.results48, go_sem, r0, r1, r2, r3, r4]
end Go.Proofs.YtoeepbmbfambcaaGreatDoor

namespace Go.Proofs.YtoeepbmbfambcaaGreatDoor
open Go.RowKit

set_option maxRecDepth 100000 in
theorem in5_calls (c : UInt8) (s : ByteArray) (w : World) (hs : s.size ≤ 1000) :
    Calls Tryz.prog 92 #[.int .u8 c.toNat, .string s] w fun e w' => e = .returned (.bool (s.data.toList.contains c)) ∧ w' = w := by
  obtain ⟨r, hr⟩ : ∃ r, r = s.data.toList.contains c := ⟨_, rfl⟩
  rw [← hr]
  have HR := Lib.hid hr
  clear hr
  generalize hn : s.size = n at *
  have HN := Lib.hid hn
  have HC : Hid (∀ x : UInt8, ((x.toNat : Int) = (c.toNat : Int)) ↔ x = c) := fun x => ⟨fun h => UInt8.toNat_inj.1 (by omega), fun h => by rw [h]⟩
  clear hn
  generalize hcn : (c.toNat : Int) = cn at *
  clear hcn
  go_enter Tryz.func92, Tryz.ntmps92
  go_wp2
  go_loopg [5] n (fun gg s5 wr => ∃ k : Nat, k ≤ n ∧ n - k ≤ gg ∧ s5 = .int .i64 k ∧ wr = w ∧ Hid (∀ j (h : j < s.size), j < k → ¬ s[j] = c))
  case atStart => exact ⟨0, Nat.zero_le _, by omega, rfl, rfl, fun j _ hj => absurd hj (Nat.not_lt_zero _)⟩
  case round =>
    obtain ⟨k, hk, hg, rfl, rfl, A⟩ := hrel
    have hsz := HN.out
    by_cases hlt : k < n
    · have hltz : (k : Int) < (n : Int) := by omega
      have hks : k < s.size := by omega
      have hx : ∀ (h : k < s.size), ((s[k]'h).toNat : Int) = bt5 s k := fun h => by unfold bt5; rw [dif_pos h]
      have he := hx hks ▸ HC.out s[k]
      by_cases hq : s[k] = c
      · have hq' : bt5 s k = cn := he.2 hq
        have HQ := Lib.hid hq
        clear hq he
        go_wp2
        go_ret
        refine ⟨?_, rfl⟩
        have : s.data.toList.contains c = true := by
          rw [List.contains_iff_mem, ← HQ.out]
          exact Array.mem_toList_iff.2 (Array.getElem_mem (xs := s.data) (i := k) hks)
        rw [HR.out, this]; rfl
      · have hq' : ¬ bt5 s k = cn := fun h => hq (he.1 h)
        have HQ := Lib.hid hq
        clear hq he
        go_wp2
        go_roundg (n - (k + 1))
        case measure => omega
        case rel =>
          refine ⟨k + 1, by omega, by omega, by go_num, rfl, (show Hid _ from fun j h hj => ?_)⟩
          by_cases e : j = k
          · subst e
            exact HQ.out
          · exact A.out j h (by omega)
    · have hltz : ¬ (k : Int) < (n : Int) := by omega
      obtain rfl : k = n := by omega
      have hrf : r = false := by
        rw [HR.out, Bool.eq_false_iff]
        intro h
        rw [List.contains_iff_mem] at h
        obtain ⟨j, hj, he⟩ := Array.getElem_of_mem (Array.mem_toList_iff.1 h)
        exact A.out j hj (by have : j < s.size := hj; omega) he
      subst hrf
      go_wp2
      go_ret
      exact ⟨rfl, rfl⟩

set_option maxRecDepth 100000 in
theorem of5_calls (s t : ByteArray) (w : World) (hs : s.size ≤ 1000) (ht : t.size ≤ 1000) :
    Calls Tryz.prog 91 #[.string s, .string t] w fun e w' => e = .returned (.bool (s.data.toList.all (fun x => t.data.toList.contains x))) ∧ w' = w := by
  obtain ⟨r, hr⟩ : ∃ r, r = s.data.toList.all (fun x => t.data.toList.contains x) := ⟨_, rfl⟩
  rw [← hr]
  have HR := Lib.hid hr
  have HI := Lib.hid (fun c => in5_calls c t w ht)
  clear hr
  generalize hn : s.size = n at *
  have HN := Lib.hid hn
  clear hn
  go_enter Tryz.func91, Tryz.ntmps91
  go_wp2
  go_loopg [5] n (fun gg s5 wr => ∃ k : Nat, k ≤ n ∧ n - k ≤ gg ∧ s5 = .int .i64 k ∧ wr = w ∧ Hid (∀ j (h : j < s.size), j < k → t.data.toList.contains s[j] = true))
  case atStart => exact ⟨0, Nat.zero_le _, by omega, rfl, rfl, fun j _ hj => absurd hj (Nat.not_lt_zero _)⟩
  case round =>
    obtain ⟨k, hk, hg, rfl, rfl, A⟩ := hrel
    have hsz := HN.out
    by_cases hlt : k < n
    · have hltz : (k : Int) < (n : Int) := by omega
      have hks : k < s.size := by omega
      have hx : ∀ (h : k < s.size), ((s[k]'h).toNat : Int) = bt5 s k := fun h => by unfold bt5; rw [dif_pos h]
      have hcall := hx hks ▸ HI.out s[k]
      cases hq : t.data.toList.contains s[k] with
      | false =>
        rw [hq] at hcall
        have HQ := Lib.hid hq
        have HC := Lib.hid hcall
        clear hq hcall
        go_wp2_with fail
        with_reducible refine HC.out.mono ?_
        rintro e w1 ⟨rfl, rfl⟩
        go_wp2
        go_ret
        refine ⟨?_, rfl⟩
        have : (s.data.toList.all fun x => t.data.toList.contains x) = false := by
          rw [List.all_eq_false]
          exact ⟨s[k], Array.mem_toList_iff.2 (Array.getElem_mem (xs := s.data) (i := k) hks), by rw [HQ.out]; simp⟩
        rw [HR.out, this]; rfl
      | true =>
        rw [hq] at hcall
        have HQ := Lib.hid hq
        have HC := Lib.hid hcall
        clear hq hcall
        go_wp2_with (go_at_call 92; with_reducible refine HC.out.mono ?_; rintro e w1 ⟨rfl, rfl⟩)
        go_roundg (n - (k + 1))
        case measure => omega
        case rel =>
          refine ⟨k + 1, by omega, by omega, by go_num, rfl, (show Hid _ from fun j h hj => ?_)⟩
          by_cases e : j = k
          · subst e
            exact HQ.out
          · exact A.out j h (by omega)
    · have hltz : ¬ (k : Int) < (n : Int) := by omega
      obtain rfl : k = n := by omega
      have hrf : r = true := by
        rw [HR.out, List.all_eq_true]
        intro x hx
        obtain ⟨j, hj, rfl⟩ := Array.getElem_of_mem (Array.mem_toList_iff.1 hx)
        exact A.out j hj (by have : j < s.size := hj; omega)
      subst hrf
      go_wp2
      go_ret
      exact ⟨rfl, rfl⟩

theorem all_bytes {p q : UInt8 → Bool} (h : ∀ n, n < 256 → p (UInt8.ofNat n) = q (UInt8.ofNat n)) (x : UInt8) : p x = q x := by
  have := h x.toNat x.toNat_lt
  rwa [UInt8.ofNat_toNat] at this
theorem let5_has (x : UInt8) : (ByteArray.mk #[97, 98, 99, 100, 101, 102, 103, 104, 105, 106, 107, 108, 109, 110, 111, 112, 113, 114, 115, 116, 117, 118, 119, 120, 121, 122]).data.toList.contains x = letter5 x := all_bytes (p := fun x => (ByteArray.mk #[97, 98, 99, 100, 101, 102, 103, 104, 105, 106, 107, 108, 109, 110, 111, 112, 113, 114, 115, 116, 117, 118, 119, 120, 121, 122]).data.toList.contains x) (by decide +kernel) x
theorem both5_has (x : UInt8) : (ByteArray.mk #[97, 98, 99, 100, 101, 102, 103, 104, 105, 106, 107, 108, 109, 110, 111, 112, 113, 114, 115, 116, 117, 118, 119, 120, 121, 122, 48, 49, 50, 51, 52, 53, 54, 55, 56, 57]).data.toList.contains x = both5 x := all_bytes (p := fun x => (ByteArray.mk #[97, 98, 99, 100, 101, 102, 103, 104, 105, 106, 107, 108, 109, 110, 111, 112, 113, 114, 115, 116, 117, 118, 119, 120, 121, 122, 48, 49, 50, 51, 52, 53, 54, 55, 56, 57]).data.toList.contains x) (by decide +kernel) x
theorem sign5_has (x : UInt8) : (ByteArray.mk #[97, 98, 99, 100, 101, 102, 103, 104, 105, 106, 107, 108, 109, 110, 111, 112, 113, 114, 115, 116, 117, 118, 119, 120, 121, 122, 48, 49, 50, 51, 52, 53, 54, 55, 56, 57, 45, 46]).data.toList.contains x = sign5 x := all_bytes (p := fun x => (ByteArray.mk #[97, 98, 99, 100, 101, 102, 103, 104, 105, 106, 107, 108, 109, 110, 111, 112, 113, 114, 115, 116, 117, 118, 119, 120, 121, 122, 48, 49, 50, 51, 52, 53, 54, 55, 56, 57, 45, 46]).data.toList.contains x) (by decide +kernel) x
theorem hexa5_has (x : UInt8) : (ByteArray.mk #[48, 49, 50, 51, 52, 53, 54, 55, 56, 57, 97, 98, 99, 100, 101, 102]).data.toList.contains x = hexa5 x := all_bytes (p := fun x => (ByteArray.mk #[48, 49, 50, 51, 52, 53, 54, 55, 56, 57, 97, 98, 99, 100, 101, 102]).data.toList.contains x) (by decide +kernel) x

theorem ofsign_calls (s : ByteArray) (w : World) (hs : s.size ≤ 1000) :
    Calls Tryz.prog 91 #[.string s, .string ⟨#[97, 98, 99, 100, 101, 102, 103, 104, 105, 106, 107, 108, 109, 110, 111, 112, 113, 114, 115, 116, 117, 118, 119, 120, 121, 122, 48, 49, 50, 51, 52, 53, 54, 55, 56, 57, 45, 46]⟩] w fun e w' => e = .returned (.bool (s.data.toList.all sign5)) ∧ w' = w := by
  have h := of5_calls s ⟨#[97, 98, 99, 100, 101, 102, 103, 104, 105, 106, 107, 108, 109, 110, 111, 112, 113, 114, 115, 116, 117, 118, 119, 120, 121, 122, 48, 49, 50, 51, 52, 53, 54, 55, 56, 57, 45, 46]⟩ w hs (by decide)
  rwa [funext sign5_has] at h
theorem ofhexa_calls (s : ByteArray) (w : World) (hs : s.size ≤ 1000) :
    Calls Tryz.prog 91 #[.string s, .string ⟨#[48, 49, 50, 51, 52, 53, 54, 55, 56, 57, 97, 98, 99, 100, 101, 102]⟩] w fun e w' => e = .returned (.bool (s.data.toList.all hexa5)) ∧ w' = w := by
  have h := of5_calls s ⟨#[48, 49, 50, 51, 52, 53, 54, 55, 56, 57, 97, 98, 99, 100, 101, 102]⟩ w hs (by decide)
  rwa [funext hexa5_has] at h
theorem inlet_calls (c : UInt8) (w : World) :
    Calls Tryz.prog 92 #[.int .u8 c.toNat, .string ⟨#[97, 98, 99, 100, 101, 102, 103, 104, 105, 106, 107, 108, 109, 110, 111, 112, 113, 114, 115, 116, 117, 118, 119, 120, 121, 122]⟩] w fun e w' => e = .returned (.bool (letter5 c)) ∧ w' = w := by
  have h := in5_calls c ⟨#[97, 98, 99, 100, 101, 102, 103, 104, 105, 106, 107, 108, 109, 110, 111, 112, 113, 114, 115, 116, 117, 118, 119, 120, 121, 122]⟩ w (by decide)
  rwa [let5_has] at h
theorem inboth_calls (c : UInt8) (w : World) :
    Calls Tryz.prog 92 #[.int .u8 c.toNat, .string ⟨#[97, 98, 99, 100, 101, 102, 103, 104, 105, 106, 107, 108, 109, 110, 111, 112, 113, 114, 115, 116, 117, 118, 119, 120, 121, 122, 48, 49, 50, 51, 52, 53, 54, 55, 56, 57]⟩] w fun e w' => e = .returned (.bool (both5 c)) ∧ w' = w := by
  have h := in5_calls c ⟨#[97, 98, 99, 100, 101, 102, 103, 104, 105, 106, 107, 108, 109, 110, 111, 112, 113, 114, 115, 116, 117, 118, 119, 120, 121, 122, 48, 49, 50, 51, 52, 53, 54, 55, 56, 57]⟩ w (by decide)
  rwa [both5_has] at h

/-- A truth is told, nothing has turned. -/
def Still5 (b : Bool) (w : World) (e : Ending) (w' : World) : Prop := e = .returned (.bool b) ∧ w' = w

set_option maxRecDepth 100000 in
theorem rhash_calls (s : ByteArray) (w : World) (hs : s.size ≤ 1000) :
    Calls Tryz.prog 63 #[.string s] w (Still5 (hash5 s.data.toList) w) := by
  have HO := Lib.hid (ofhexa_calls s w hs)
  have he : hash5 s.data.toList = (decide (1 ≤ s.size) && decide (s.size ≤ 12) && s.data.toList.all hexa5) := by unfold hash5; rw [size_list]
  rw [he]
  clear he
  generalize s.data.toList.all hexa5 = r at *
  generalize hn : s.size = n at *
  by_cases h1 : 1 ≤ n
  · have z1 : (n : Int) ≥ 1 := by omega
    by_cases h12 : n ≤ 12
    · rw [decide_eq_true h1, decide_eq_true h12, Bool.true_and, Bool.true_and]
      have z : (n : Int) ≤ 12 := by omega
      go_enter Tryz.func63, Tryz.ntmps63
      go_wp2_with fail
      with_reducible refine HO.out.mono ?_
      rintro e w1 ⟨rfl, rfl⟩
      go_wp2
      go_ret
      exact ⟨rfl, rfl⟩
    · rw [decide_eq_false h12, Bool.and_false, Bool.false_and]
      have z : ¬ (n : Int) ≤ 12 := by omega
      go_enter Tryz.func63, Tryz.ntmps63
      go_wp2
      go_ret
      exact ⟨rfl, rfl⟩
  · rw [decide_eq_false h1, Bool.false_and, Bool.false_and]
    have z : ¬ (n : Int) ≥ 1 := by omega
    go_enter Tryz.func63, Tryz.ntmps63
    go_wp2
    go_ret
    exact ⟨rfl, rfl⟩

set_option maxRecDepth 100000 in
theorem rname_calls (s : ByteArray) (w : World) (hs : s.size ≤ 1000) :
    Calls Tryz.prog 62 #[.string s] w (Still5 (name5 s.data.toList) w) := by
  have HO := Lib.hid (ofsign_calls s w hs)
  by_cases h1 : 1 ≤ s.size
  · have z1 : (s.size : Int) ≥ 1 := by omega
    have hpos : 0 < s.size := by omega
    have he : name5 s.data.toList = (decide (s.size ≤ 12) && s.data.toList.all sign5 && letter5 s[0] && both5 s[s.size - 1]) := by
      unfold name5 pref5
      rw [head_at s hpos, last_at s hpos, size_list, decide_eq_true h1, Bool.true_and]
    rw [he]
    clear he
    have hb0 : ∀ (h : 0 < s.size), ((s[0]'h).toNat : Int) = bt5 s 0 := fun h => bt5_eq s 0 h
    have hb1 : ∀ (h : s.size - 1 < s.size), ((s[s.size - 1]'h).toNat : Int) = bt5 s (s.size - 1) := fun h => bt5_eq s _ h
    have HI0 := Lib.hid (hb0 hpos ▸ inlet_calls s[0] w)
    have HI1 := Lib.hid (hb1 (by omega) ▸ inboth_calls s[s.size - 1] w)
    generalize s.data.toList.all sign5 = r at *
    generalize letter5 s[0] = b0 at *
    generalize both5 s[s.size - 1] = b1 at *
    generalize bt5 s 0 = n0 at *
    generalize hn1 : bt5 s (s.size - 1) = n1 at *
    clear hn1
    have zz : (s.size : Int) - 1 = ((s.size - 1 : Nat) : Int) := by omega
    by_cases h12 : s.size ≤ 12
    · rw [decide_eq_true h12, Bool.true_and]
      have z : (s.size : Int) ≤ 12 := by omega
      cases r with
      | false =>
        show Calls _ _ _ _ (Still5 false w)
        go_enter Tryz.func62, Tryz.ntmps62
        go_wp2_with fail
        with_reducible refine HO.out.mono ?_
        rintro e w1 ⟨rfl, rfl⟩
        go_wp2
        go_ret
        exact ⟨rfl, rfl⟩
      | true =>
        cases b0 with
        | false =>
          show Calls _ _ _ _ (Still5 false w)
          go_enter Tryz.func62, Tryz.ntmps62
          go_wp2_with fail
          with_reducible refine HO.out.mono ?_
          rintro e w1 ⟨rfl, rfl⟩
          go_wp2_with fail
          with_reducible refine HI0.out.mono ?_
          rintro e w1 ⟨rfl, rfl⟩
          go_wp2
          go_ret
          exact ⟨rfl, rfl⟩
        | true =>
          show Calls _ _ _ _ (Still5 b1 w)
          go_enter Tryz.func62, Tryz.ntmps62
          go_wp2_with fail
          with_reducible refine HO.out.mono ?_
          rintro e w1 ⟨rfl, rfl⟩
          go_wp2_with fail
          with_reducible refine HI0.out.mono ?_
          rintro e w1 ⟨rfl, rfl⟩
          go_wp2_with fail
          with_reducible refine HI1.out.mono ?_
          rintro e w1 ⟨rfl, rfl⟩
          go_wp2
          go_ret
          exact ⟨rfl, rfl⟩
    · rw [decide_eq_false h12, Bool.false_and, Bool.false_and, Bool.false_and]
      have z : ¬ (s.size : Int) ≤ 12 := by omega
      go_enter Tryz.func62, Tryz.ntmps62
      go_wp2
      go_ret
      exact ⟨rfl, rfl⟩
  · have he : name5 s.data.toList = false := by
      unfold name5
      rw [size_list, decide_eq_false h1]; rfl
    rw [he]
    have z : ¬ (s.size : Int) ≥ 1 := by omega
    go_enter Tryz.func62, Tryz.ntmps62
    go_wp2
    go_ret
    exact ⟨rfl, rfl⟩
end Go.Proofs.YtoeepbmbfambcaaGreatDoor

namespace Go.Proofs.YtoeepbmbfambcaaGreatDoor
open Go.RowKit

/-- What the byte x has become when j great letters were looked at. -/
def cur5 (x : UInt8) (j : Nat) : ByteArray := if 65 ≤ x.toNat ∧ x.toNat < 65 + j then ⟨#[x + 32]⟩ else ⟨#[x]⟩
theorem cur5_zero (x : UInt8) : cur5 x 0 = ⟨#[x]⟩ := by unfold cur5; rw [if_neg (by omega)]
theorem cur5_end (x : UInt8) : cur5 x 26 = ⟨#[foldC x]⟩ := by
  unfold cur5 foldC inR
  by_cases h : 65 ≤ x.toNat ∧ x.toNat < 65 + 26
  · have : (decide (65 ≤ x.toNat) && decide (x.toNat ≤ 90)) = true := by simp; omega
    rw [if_pos h, if_pos this]
  · have : ¬ (decide (65 ≤ x.toNat) && decide (x.toNat ≤ 90)) = true := by simp; omega
    rw [if_neg h, if_neg this]
theorem cur5_hit (x : UInt8) (j : Nat) (h : x.toNat = 65 + j) : cur5 x (j + 1) = ⟨#[x + 32]⟩ := by unfold cur5; rw [if_pos (by omega)]
theorem cur5_miss (x : UInt8) (j : Nat) (h : ¬ x.toNat = 65 + j) : cur5 x (j + 1) = cur5 x j := by
  unfold cur5
  by_cases h1 : 65 ≤ x.toNat ∧ x.toNat < 65 + j
  · rw [if_pos h1, if_pos (by omega)]
  · rw [if_neg h1, if_neg (by omega)]
theorem cur5_size (x : UInt8) (j : Nat) : (cur5 x j).size = 1 := by unfold cur5; split <;> rfl

def great5 : ByteArray := ⟨#[65, 66, 67, 68, 69, 70, 71, 72, 73, 74, 75, 76, 77, 78, 79, 80, 81, 82, 83, 84, 85, 86, 87, 88, 89, 90]⟩
def small5 : ByteArray := ⟨#[97, 98, 99, 100, 101, 102, 103, 104, 105, 106, 107, 108, 109, 110, 111, 112, 113, 114, 115, 116, 117, 118, 119, 120, 121, 122]⟩
theorem great5_size : great5.size = 26 := rfl
theorem great5_at : ∀ j, j < 26 → ∀ (h : j < great5.size), ((great5[j]'h).toNat : Int) = 65 + (j : Int) := by
  have h : ∀ j, j < 26 → ∀ (h : j < great5.size), (great5[j]'h).toNat = 65 + j := by decide +kernel
  intro j hj h2
  rw [h j hj h2]; omega
theorem small5_at (x : UInt8) (j : Nat) (hj : j < 26) (h : x.toNat = 65 + j) : small5.extract j (j + 1) = ⟨#[x + 32]⟩ := by
  have h1 : ∀ j, j < 26 → small5.extract j (j + 1) = ⟨#[UInt8.ofNat (65 + j) + 32]⟩ := by decide +kernel
  have hx : x = UInt8.ofNat (65 + j) := by rw [← h, UInt8.ofNat_toNat]
  rw [h1 j hj, hx]
theorem one_at (s : ByteArray) (i : Nat) (h : i < s.size) : s.extract i (i + 1) = ⟨#[s[i]]⟩ := by
  apply ByteArray.ext
  apply Array.ext'
  rw [ByteArray.data_extract]
  have : i < s.data.size := h
  apply List.ext_getElem
  · simp; omega
  · intro n h1 h2
    simp at h2
    subst h2
    simp
    rfl

theorem cut_at (s : ByteArray) (i : Nat) (y : ByteArray) (h : i < s.size) (e : s.extract i (i + 1) = y) (W : World) :
    (Instr.slice 9 (.string s) (some (.int .i64 i)) (some (.int .i64 ((i : Int) + 1))) none).run Tryz.prog W = .ok (.string y) W := by
  have h1 : ((i : Int) + 1) = ((i + 1 : Nat) : Int) := by omega
  rw [h1, run_slice_string W 9 s .i64 .i64 (i : Int) ((i + 1 : Nat) : Int) Tryz.underlying9 (by omega) (by omega) (by omega)]
  rw [← e]
  simp

set_option maxRecDepth 100000 in
theorem rfold_calls (s : ByteArray) (w : World) (hs : s.size ≤ 1000) :
    Calls Tryz.prog 93 #[.string s] w fun e w' => e = .returned (.string ⟨(fold5 s.data.toList).toArray⟩) ∧ ∃ q, w' = w.drewN q := by
  obtain ⟨r, hr⟩ : ∃ r, r = (⟨(fold5 s.data.toList).toArray⟩ : ByteArray) := ⟨_, rfl⟩
  rw [← hr]
  have HR := Lib.hid hr
  clear hr
  generalize hn : s.size = n at *
  have HN := Lib.hid hn
  clear hn
  have hgs := great5_size
  have HGA := Lib.hid great5_at
  go_enter Tryz.func93, Tryz.ntmps93
  go_wp2
  generalize hgr : (⟨#[65, 66, 67, 68, 69, 70, 71, 72, 73, 74, 75, 76, 77, 78, 79, 80, 81, 82, 83, 84, 85, 86, 87, 88, 89, 90]⟩ : ByteArray) = gr
  have hgr2 : great5 = gr := hgr
  rw [hgr2] at hgs HGA
  clear hgr hgr2
  go_loopg [4, 5, 6, 7] n (fun gg s4 s5 _ _ wr => ∃ i q : Nat, i ≤ n ∧ n - i ≤ gg ∧ s4 = .string ⟨(fold5 (s.data.toList.take i)).toArray⟩ ∧ s5 = .int .i64 i ∧ wr = w.drewN q)
  case atStart => exact ⟨0, 0, Nat.zero_le _, by omega, rfl, rfl, rfl⟩
  case round =>
    obtain ⟨i, q, hi, hg, rfl, rfl, rfl⟩ := hrel
    have hsz := HN.out
    by_cases hlt : i < n
    · have hltz : (i : Int) < (n : Int) := by omega
      have his : i < s.size := by omega
      obtain ⟨o, ho⟩ : ∃ o, o = (⟨(fold5 (s.data.toList.take i)).toArray⟩ : ByteArray) := ⟨_, rfl⟩
      rw [← ho]
      have HO := Lib.hid ho
      have hos : o.size = i := by
        rw [ho]
        show (fold5 (s.data.toList.take i)).toArray.size = i
        rw [List.size_toArray, fold5, List.length_map, List.length_take, size_list]; omega
      clear ho
      have hx : ∀ (h : i < s.size), ((s[i]'h).toNat : Int) = bt5 s i := fun h => bt5_eq s i h
      have hex := one_at s i his
      rw [← cur5_zero] at hex
      obtain ⟨x, hxx⟩ : ∃ x, x = s[i] := ⟨_, rfl⟩
      rw [← hxx] at hex
      have hxn : bt5 s i = (x.toNat : Int) := by rw [hxx]; exact (hx his).symm
      have HX := Lib.hid hxx
      rw [hxn] at hx
      clear hxx hxn
      have hsl := cut_at s i _ his hex
      go_wp2
      go_loopg [6, 7, 19] 26 (fun gg s6 _ s19 wr => ∃ j q : Nat, j ≤ 26 ∧ 26 - j ≤ gg ∧ s6 = .string (cur5 x j) ∧ s19 = .int .i64 j ∧ wr = w.drewN q)
      case atStart => exact ⟨0, q, Nat.zero_le _, by omega, rfl, rfl, rfl⟩
      case round =>
        obtain ⟨j, q, hj, hg2, rfl, rfl, rfl⟩ := hrel
        by_cases hlj : j < 26
        · have hljz : (j : Int) < 26 := by omega
          have hjs : j < gr.size := by omega
          have hgx := HGA.out j hlj
          by_cases hq : x.toNat = 65 + j
          · have hq' : (x.toNat : Int) = 65 + (j : Int) := by omega
            have hsm := cut_at small5 j _ hlj (small5_at x j hlj hq)
            rw [← cur5_hit x j hq] at hsm
            have hsm2 : ∀ W, (Instr.slice 9 (.string ⟨#[97, 98, 99, 100, 101, 102, 103, 104, 105, 106, 107, 108, 109, 110, 111, 112, 113, 114, 115, 116, 117, 118, 119, 120, 121, 122]⟩) (some (.int .i64 j)) (some (.int .i64 ((j : Int) + 1))) none).run Tryz.prog W = .ok (.string (cur5 x (j + 1))) W := hsm
            clear hsm
            go_wp2_with fail
            go_quiet (fail)
            go_wp2
            go_roundg (26 - (j + 1))
            case measure => omega
            case rel => exact ⟨j + 1, _, by omega, by omega, rfl, by go_num, rfl⟩
          · have hq' : ¬ (x.toNat : Int) = 65 + (j : Int) := by omega
            have hcu := cur5_miss x j hq
            generalize cur5 x j = c at *
            go_wp2_with fail
            go_quiet (fail)
            go_wp2
            go_roundg (26 - (j + 1))
            case measure => omega
            case rel => exact ⟨j + 1, _, by omega, by omega, by rw [hcu], by go_num, rfl⟩
        · have hljz : ¬ (j : Int) < 26 := by omega
          obtain rfl : j = 26 := by omega
          obtain ⟨o2, ho2⟩ : ∃ o2, o2 = (⟨(fold5 (s.data.toList.take (i + 1))).toArray⟩ : ByteArray) := ⟨_, rfl⟩
          have hcs := cur5_size x 26
          have hadd : ∀ W, (Op.stringOp .add o (cur5 x 26)).run Tryz.prog W = .ok (.string o2) W := fun W => by
            rw [run_string_add_sum W _ _ (by omega)]
            congr 2
            rw [ho2, HO.out, cur5_end]
            apply ByteArray.ext
            have hls : i < s.data.toList.length := by rw [size_list]; exact his
            rw [List.take_succ_eq_append_getElem hls]
            have hxe : s.data.toList[i] = x := by rw [HX.out]; rfl
            simp [fold5, hxe]
          have HO2 := Lib.hid ho2
          clear ho2
          generalize cur5 x 26 = c at *
          go_wp2
          go_roundg (n - (i + 1))
          case measure => omega
          case rel => exact ⟨i + 1, _, by omega, by omega, by rw [HO2.out], by go_num, rfl⟩
    · have hltz : ¬ (i : Int) < (n : Int) := by omega
      obtain rfl : i = n := by omega
      have he : (⟨(fold5 (s.data.toList.take i)).toArray⟩ : ByteArray) = r := by
        rw [HR.out, List.take_of_length_le (by rw [size_list]; omega)]
      rw [he]
      go_wp2
      go_ret
      exact ⟨rfl, q, rfl⟩
end Go.Proofs.YtoeepbmbfambcaaGreatDoor

namespace Go.Proofs.YtoeepbmbfambcaaGreatDoor
open Go.RowKit

theorem idx_hit (c : UInt8) : ∀ (l : List UInt8) (k : Nat) (hk : k < l.length), (∀ j (h : j < l.length), j < k → ¬ l[j] = c) → l[k] = c → Lib.indexByte l c = k
  | [], k, hk, _, _ => absurd hk (by simp)
  | x :: l, 0, _, _, h => by
    have : x = c := h
    unfold Lib.indexByte
    rw [if_pos (beq_iff_eq.2 this)]; rfl
  | x :: l, k + 1, hk, ha, h => by
    have h0 : ¬ x = c := ha 0 (by simp) (by omega)
    have ih := idx_hit c l k (by simpa using hk) (fun j hj hjk => ha (j + 1) (by simpa using hj) (by omega)) (by simpa using h)
    unfold Lib.indexByte
    rw [if_neg (by simpa using h0), ih]
    have : ((k : Int) == -1) = false := by simp
    rw [this]
    simp
theorem idx_none (c : UInt8) : ∀ (l : List UInt8), (∀ j (h : j < l.length), ¬ l[j] = c) → Lib.indexByte l c = -1
  | [], _ => rfl
  | x :: l, ha => by
    have h0 : ¬ x = c := ha 0 (by simp)
    have ih := idx_none c l (fun j hj => ha (j + 1) (by simpa using hj))
    unfold Lib.indexByte
    rw [if_neg (by simpa using h0), ih]
    rfl

theorem cut5_hit (l : List UInt8) (k : Nat) (hk : k < (fold5 l).length) (ha : ∀ j (h : j < (fold5 l).length), j < k → ¬ (fold5 l)[j] = 64) (h : (fold5 l)[k] = 64) :
    cut5 l = ((fold5 l).take k, (fold5 l).drop (k + 1), true) := by
  have hi := (Lib.index_one (fold5 l) 64).trans (idx_hit 64 _ k hk ha h)
  unfold cut5 Lib.cut
  rw [hi, if_pos (by omega)]
  simp
theorem cut5_none (l : List UInt8) (ha : ∀ j (h : j < (fold5 l).length), ¬ (fold5 l)[j] = 64) : (cut5 l).2.2 = false := by
  have hi := (Lib.index_one (fold5 l) 64).trans (idx_none 64 _ ha)
  unfold cut5 Lib.cut
  rw [hi, if_neg (by omega)]

theorem cut_to (s : ByteArray) (k : Nat) (h : k ≤ s.size) (W : World) :
    (Instr.slice 9 (.string s) none (some (.int .i64 k)) none).run Tryz.prog W = .ok (.string (s.extract 0 k)) W := by
  rw [run_slice_string_to_if W 9 s .i64 (k : Int) Tryz.underlying9]
  simp [h]

/-- An address is told, or that it is none. -/
def RMails5 (b : Bool) (t : ByteArray) (w : World) (e : Ending) (w' : World) : Prop := e = .returned (.tuple #[.string t, .bool b]) ∧ ∃ q, w' = w.drewN q

set_option maxRecDepth 100000 in
theorem rmail_calls (s : ByteArray) (w : World) (hs : s.size ≤ 1000) :
    Calls Tryz.prog 64 #[.string s] w (RMails5 (mail5 s.data.toList) (mailT s.data.toList) w) := by
  by_cases h20 : s.size ≤ 20
  · have hm1 : mail5 s.data.toList = ((cut5 s.data.toList).2.2 && name5 (cut5 s.data.toList).1 && dom5 both5 (cut5 s.data.toList).2.1) := by
      unfold mail5
      rw [size_list, decide_eq_true h20, Bool.true_and]
    have hfl : (fold5 s.data.toList).length = s.size := by rw [fold5_length, size_list]
    have HF := Lib.hid (rfold_calls s w hs)
    unfold mailT
    rw [hm1]
    clear hm1
    have HCH := Lib.hid (cut5_hit s.data.toList)
    have HCN := Lib.hid (cut5_none s.data.toList)
    generalize hcc : cut5 s.data.toList = c at *
    clear hcc
    generalize fold5 s.data.toList = l at *
    generalize hn : s.size = n at *
    have z : ¬ (n : Int) > 20 := by omega
    have z' : ¬ 20 < n := by omega
    obtain ⟨f, hf⟩ : ∃ f : ByteArray, f = ⟨l.toArray⟩ := ⟨_, rfl⟩
    have hfs : f.size = n := by rw [hf]; show l.toArray.size = n; rw [List.size_toArray, hfl]
    have hfl2 : f.data.toList = l := by rw [hf]
    have HGet : Hid (∀ j (h : j < l.length) (h2 : j < f.size), l[j] = f[j]) := fun j h h2 => by subst hf; rfl
    rw [← hf] at HF ⊢
    clear hf
    obtain ⟨r, hr⟩ : ∃ r : Bool, r = (c.2.2 && name5 c.1 && dom5 both5 c.2.1) := ⟨_, rfl⟩
    obtain ⟨rt, hrt⟩ : ∃ rt : ByteArray, rt = if (c.2.2 && name5 c.1 && dom5 both5 c.2.1) = true then f else ⟨#[]⟩ := ⟨_, rfl⟩
    rw [← hrt, ← hr]
    rw [← hr] at hrt
    have HR := Lib.hid hr
    have HRT := Lib.hid hrt
    have HFL := Lib.hid hfl
    have HFL2 := Lib.hid hfl2
    have HFS := Lib.hid hfs
    clear hr hrt hfl hfl2 hfs
    go_enter Tryz.func64, Tryz.ntmps64
    go_wp2_with fail
    with_reducible refine HF.out.mono ?_
    rintro e w1 ⟨rfl, q, rfl⟩
    have HQ : Hid (∃ q', w.drewN q = w.drewN q') := ⟨q, rfl⟩
    generalize w.drewN q = w1 at *
    clear HF
    have hfs := HFS.out
    go_wp2
    go_loopg [4] n (fun gg s4 wr => ∃ k : Nat, k ≤ n ∧ n - k ≤ gg ∧ s4 = .int .i64 k ∧ wr = w1 ∧ Hid (∀ j (h : j < l.length), j < k → ¬ l[j] = 64))
    case atStart => exact ⟨0, Nat.zero_le _, by omega, rfl, rfl, fun j _ hj => absurd hj (Nat.not_lt_zero _)⟩
    case round =>
      obtain ⟨k, hk, hg, rfl, rfl, A⟩ := hrel
      by_cases hlt : k < n
      · have hltz : (k : Int) < (n : Int) := by omega
        have hkf : k < f.size := by omega
        have hkl : k < l.length := by have := HFL.out; omega
        have hx : ∀ (h : k < f.size), ((f[k]'h).toNat : Int) = bt5 f k := fun h => bt5_eq f k h
        have hlx := HGet.out k hkl hkf
        have h64 : l[k] = 64 ↔ bt5 f k = 64 := by
          rw [← hx hkf, hlx]
          constructor
          · intro h; rw [h]; rfl
          · intro h; exact UInt8.toNat_inj.1 (by have : (64 : UInt8).toNat = 64 := rfl; omega)
        by_cases hq : l[k] = 64
        · have hq' := h64.1 hq
          have hcc := HCH.out k hkl A.out hq
          have hc1 : c.1 = l.take k := by rw [hcc]
          have hc2 : c.2.1 = l.drop (k + 1) := by rw [hcc]
          have hc3 : c.2.2 = true := by rw [hcc]
          have HNM := Lib.hid (rname_calls (f.extract 0 k) wr (by simp; omega))
          have hex : (f.extract 0 k).data.toList = l.take k := by
            rw [← HFL2.out]
            exact Lib.extract_from_zero f k
          rw [hex, ← hc1] at HNM
          have hct := cut_to f k (by omega)
          generalize f.extract 0 k = f1 at *
          have hr1 : r = (name5 c.1 && dom5 both5 (l.drop (k + 1))) := by rw [HR.out, hc3, hc2, Bool.true_and]
          clear HR HCH HCN hcc hc2 hc3 hc1 hex h64 hlx hq A
          generalize name5 c.1 = bn at *
          have zk : ¬ (k : Int) = (n : Int) := by omega
          have zk' : ¬ k = n := by omega
          have zkb : ((k : Int) == (n : Int)) = false := by simp; omega
          cases bn with
          | false =>
            have hr : r = false := hr1
            have hrt : rt = ⟨#[]⟩ := by rw [HRT.out, hr]; rfl
            subst hr; subst hrt
            clear hr1 HRT
            go_wp2_with fail
            with_reducible refine HNM.out.mono ?_
            rintro e w2 ⟨rfl, rfl⟩
            go_wp2
            go_ret2
            exact ⟨rfl, HQ.out⟩
          | true =>
            rw [Bool.true_and, ← scan5_dom] at hr1
            have HR1 := Lib.hid hr1
            clear hr1
            go_wp2_with fail
            with_reducible refine HNM.out.mono ?_
            rintro e w2 ⟨rfl, rfl⟩
            clear HNM hct
            go_wp2
            go_loopg [5, 6, 7] n (fun gg s5 s6 s7 wr => ∃ i st lg : Nat, i ≤ n ∧ n - i ≤ gg ∧ st ≤ i ∧ lg ≤ i ∧ s5 = .int .i64 st ∧ s6 = .int .i64 lg ∧ s7 = .int .i64 i ∧ wr = w2 ∧ Hid (r = scan5 both5 (l.drop i) st lg))
            case atStart => exact ⟨k + 1, 0, 0, by omega, by omega, by omega, by omega, rfl, rfl, by go_num, rfl, HR1⟩
            case round =>
              obtain ⟨i, st, lg, hi, hgi, hst, hlg, rfl, rfl, rfl, rfl, HS⟩ := hrel
              by_cases hil : i < n
              · have hilz : (i : Int) < (n : Int) := by omega
                have hif : i < f.size := by omega
                have hill : i < l.length := by have := HFL.out; omega
                have hxi : ∀ (h : i < f.size), ((f[i]'h).toNat : Int) = bt5 f i := fun h => bt5_eq f i h
                have hli := HGet.out i hill hif
                have hsc : r = scan5 both5 (f[i] :: l.drop (i + 1)) st lg := by
                  rw [HS.out, List.drop_eq_getElem_cons hill, hli]
                have HI := Lib.hid (hxi hif ▸ inboth_calls f[i] wr)
                have h46 : f[i] = 46 ↔ bt5 f i = 46 := by
                  rw [← hxi hif]
                  constructor
                  · intro h; rw [h]; rfl
                  · intro h; exact UInt8.toNat_inj.1 (by have : (46 : UInt8).toNat = 46 := rfl; omega)
                rw [scan5] at hsc
                clear hx
                by_cases hd : f[i] = 46
                · rw [if_pos hd] at hsc
                  have hd' := h46.1 hd
                  clear h46 hd HI hli HS
                  by_cases hl0 : lg = 0
                  · rw [if_pos hl0] at hsc
                    have hrt : rt = ⟨#[]⟩ := by rw [HRT.out, hsc]; rfl
                    subst hsc; subst hrt
                    have zl : (lg : Int) = 0 := by omega
                    clear HRT
                    go_wp2
                    go_ret2
                    exact ⟨rfl, HQ.out⟩
                  · rw [if_neg hl0] at hsc
                    have zl : ¬ (lg : Int) = 0 := by omega
                    have HS2 := Lib.hid hsc
                    clear hsc
                    go_wp2
                    go_roundg (n - (i + 1))
                    case measure => omega
                    case rel => exact ⟨i + 1, st + 1, 0, by omega, by omega, by omega, by omega, by go_num, rfl, by go_num, rfl, HS2⟩
                · rw [if_neg hd] at hsc
                  have hd' : ¬ bt5 f i = 46 := fun h => hd (h46.2 h)
                  clear h46 hd hli HS
                  generalize both5 f[i] = bb at *
                  cases bb with
                  | false =>
                    have hrf : r = false := hsc
                    have hrt : rt = ⟨#[]⟩ := by rw [HRT.out, hrf]; rfl
                    subst hrf; subst hrt
                    clear HRT hsc
                    go_wp2_with fail
                    with_reducible refine HI.out.mono ?_
                    rintro e w3 ⟨rfl, rfl⟩
                    go_wp2
                    go_ret2
                    exact ⟨rfl, HQ.out⟩
                  | true =>
                    have HS2 : Hid (r = scan5 both5 (l.drop (i + 1)) st (lg + 1)) := hsc
                    clear hsc
                    go_wp2_with (go_at_call 92; with_reducible refine HI.out.mono ?_; rintro e w3 ⟨rfl, rfl⟩)
                    go_roundg (n - (i + 1))
                    case measure => omega
                    case rel => exact ⟨i + 1, st, lg + 1, by omega, by omega, by omega, by omega, rfl, by go_num, by go_num, rfl, HS2⟩
              · have hilz : ¬ (i : Int) < (n : Int) := by omega
                obtain rfl : i = n := by omega
                have hnil : l.drop i = [] := List.drop_eq_nil_of_le (by have := HFL.out; omega)
                have hsc : r = (decide (1 ≤ st) && decide (1 ≤ lg)) := by rw [HS.out, hnil]; rfl
                clear hnil HS hx
                by_cases hs0 : st = 0
                · have hrf : r = false := by rw [hsc, decide_eq_false (by omega)]; rfl
                  have hrt : rt = ⟨#[]⟩ := by rw [HRT.out, hrf]; rfl
                  subst hrf; subst hrt
                  clear hsc HRT
                  have zs : (st : Int) = 0 := by omega
                  go_wp2
                  go_ret2
                  exact ⟨rfl, HQ.out⟩
                · have zs : ¬ (st : Int) = 0 := by omega
                  have zsb : ((st : Int) == 0) = false := by simp; omega
                  by_cases hl0 : lg = 0
                  · have hrf : r = false := by rw [hsc, decide_eq_false (by omega : ¬ 1 ≤ lg), Bool.and_false]
                    have hrt : rt = ⟨#[]⟩ := by rw [HRT.out, hrf]; rfl
                    subst hrf; subst hrt
                    clear hsc HRT
                    have zl : (lg : Int) = 0 := by omega
                    go_wp2
                    go_ret2
                    exact ⟨rfl, HQ.out⟩
                  · have zl : ¬ (lg : Int) = 0 := by omega
                    have zlb : ((lg : Int) == 0) = false := by simp; omega
                    have hrf : r = true := by rw [hsc, decide_eq_true (by omega : 1 ≤ st), decide_eq_true (by omega : 1 ≤ lg)]; rfl
                    have hrt : rt = f := by rw [HRT.out, hrf]; rfl
                    subst hrf; subst hrt
                    clear hsc HRT
                    go_wp2
                    go_ret2
                    exact ⟨rfl, HQ.out⟩
        · have hq' : ¬ bt5 f k = 64 := fun h => hq (h64.2 h)
          have HQ2 := Lib.hid hq
          clear hq h64 hlx
          go_wp2
          go_roundg (n - (k + 1))
          case measure => omega
          case rel =>
            refine ⟨k + 1, by omega, by omega, by go_num, rfl, (show Hid _ from fun j h hj => ?_)⟩
            by_cases e : j = k
            · subst e
              exact HQ2.out
            · exact A.out j h (by omega)
      · have hltz : ¬ (k : Int) < (n : Int) := by omega
        obtain rfl : k = n := by omega
        have hb : c.2.2 = false := HCN.out fun j hj => A.out j hj (by have := HFL.out; omega)
        have hr : r = false := by rw [HR.out, hb]; rfl
        have hrt : rt = ⟨#[]⟩ := by rw [HRT.out, hr]; rfl
        subst hr; subst hrt
        clear hb
        go_wp2
        go_ret2
        exact ⟨rfl, HQ.out⟩
  · have hm1 : mail5 s.data.toList = false := by
      unfold mail5
      rw [size_list, decide_eq_false h20]; rfl
    have hm2 : mailT s.data.toList = ⟨#[]⟩ := by unfold mailT; rw [hm1]; rfl
    rw [hm1, hm2]
    clear hm1 hm2
    generalize hn : s.size = n at *
    have z : (n : Int) > 20 := by omega
    have z' : 20 < n := by omega
    go_enter Tryz.func64, Tryz.ntmps64
    go_wp2
    go_ret2
    exact ⟨rfl, 0, rfl⟩
end Go.Proofs.YtoeepbmbfambcaaGreatDoor

namespace Go.Proofs.YtoeepbmbfambcaaGreatDoor
open Go.RowKit

theorem less_cmp : ∀ (a b : List UInt8), (Op.bytesLess b a || b == a) = !decide (Lib.compareBytes a b < 0)
  | [], [] => by decide
  | [], b :: bl => by simp [Op.bytesLess, Lib.compareBytes]
  | a :: al, [] => by simp [Op.bytesLess, Lib.compareBytes]
  | a :: al, b :: bl => by
    have ih := less_cmp al bl
    unfold Op.bytesLess Lib.compareBytes
    by_cases h1 : a < b
    · have h2 : ¬ b < a := fun h => absurd (UInt8.lt_trans h1 h) (UInt8.lt_irrefl _)
      have h3 : ¬ b = a := fun h => by subst h; exact UInt8.lt_irrefl _ h1
      simp [h1, h2, h3]
    · by_cases h2 : b < a
      · simp [h1, h2]
      · have h3 : a = b := UInt8.le_antisymm (UInt8.not_lt.1 h2) (UInt8.not_lt.1 h1)
        subst h3
        simp [h1] at ih ⊢
        exact ih
theorem leq6_eq (x y : ByteArray) : (Op.bytesLess x.toList y.toList || x.toList == y.toList) = !ahead6 y x := by
  have h := less_cmp y.data.toList x.data.toList
  unfold ahead6
  rw [← h, ← ByteArray.toList_eq, ← ByteArray.toList_eq]
theorem toList_eq6 {s t : ByteArray} (h : s.toList = t.toList) : s = t := by
  rw [ByteArray.toList_eq, ByteArray.toList_eq] at h
  exact ByteArray.ext (Array.toList_inj.1 h)

set_option maxRecDepth 100000 in
set_option maxHeartbeats 4000000 in
theorem rcheck6_calls (s : Int) (u : Us) (w : World) (h : u.Ok w) (h1 : u.nm.size ≤ 1000) (h2 : u.hs.size ≤ 1000) (h3 : u.ml.size ≤ 1000) (h4 : ∀ g ∈ u.gs, g.size ≤ 1000) :
    Calls Tryz.prog 39 #[.int .i64 s, u.v] w (Errs5 (chk6 s u) w) := by
  have hnot : ∀ (x : Bool) (w : World), (Op.unary .not (.bool x)).run Tryz.prog w = .ok (.bool (!x)) w := fun _ _ => rfl
  have HB1 := Lib.hid (below_alloc (Below.refl w.heap.size w) (.cells u.cells 43))
  have HA1 : Hid (UsAt (w.alloc (.cells u.cells 43)) w.heap.size u) := UsAt.new w u _
  have HRD := Lib.hid (h.rd.below HB1.out)
  have HN : Hid (∀ W, Calls Tryz.prog 62 #[.string u.nm] W (Still5 (name5 u.nm.data.toList) W)) := fun W => rname_calls u.nm W h1
  have HH : Hid (∀ W, Calls Tryz.prog 63 #[.string u.hs] W (Still5 (hash5 u.hs.data.toList) W)) := fun W => rhash_calls u.hs W h2
  have HM : Hid (∀ W, Calls Tryz.prog 64 #[.string u.ml] W (RMails5 (mail5 u.ml.data.toList) (mailT u.ml.data.toList) W)) := fun W => rmail_calls u.ml W h3
  have HGS := Lib.hid h4
  have hlen := h.len
  have hcap := h.cap
  obtain ⟨r, hr⟩ : ∃ r, r = chk6 s u := ⟨_, rfl⟩
  rw [← hr]
  unfold chk6 at hr
  have HR := Lib.hid hr
  have hbare : bare6 u = (decide (u.ml = ⟨#[]⟩) && decide (u.dis = false) && decide (u.gs = [])) := by
    show (decide (u.nm = u.nm) && decide (u.hs = u.hs) && decide (u.ml = ⟨#[]⟩) && decide (u.dis = false) && decide (u.gs = [])) = _
    rw [decide_eq_true (rfl : u.nm = u.nm), decide_eq_true (rfl : u.hs = u.hs), Bool.true_and, Bool.true_and]
  have HBA := Lib.hid hbare
  clear h h1 h2 h3 h4 hr hbare
  unfold Us.v
  unfold Us.cells at *
  obtain ⟨nm, hs, ml, dis, A, gs, c⟩ := u
  dsimp only at *
  generalize bare6 ⟨nm, hs, ml, dis, A, gs, c⟩ = bb6 at *
  generalize name5 nm.data.toList = bn at *
  generalize hash5 hs.data.toList = bh at *
  have c0 : _ = some (.string nm : Value) := HA1.out.c0
  have c1 : _ = some (.string hs : Value) := HA1.out.c1
  have c2 : _ = some (.string ml : Value) := HA1.out.c2
  have c3 : _ = some (.bool dis : Value) := HA1.out.c3
  have c4 : _ = some (.slice A gs.length c : Value) := HA1.out.c4
  by_cases hk : know6 s = true
  · have hs12 : s = 1 ∨ s = 2 := by simpa [know6] using hk
    have k1 : ¬ s < 1 := by omega
    have k2 : ¬ s > 2 := by omega
    have k2' : ¬ 2 < s := by omega
    rw [hk] at HR
    cases bn with
    | false =>
      have hr : r = 10 := by
        rw [HR.out]
        rcases hs12 with rfl | rfl <;> rfl
      subst hr
      go_enter Tryz.func39, Tryz.ntmps39
      go_wp2_with fail
      with_reducible refine (HN.out _).mono ?_
      rintro e w2 ⟨rfl, rfl⟩
      go_wp2
      go_ret
      exact ⟨rfl, HB1.out⟩
    | true =>
      cases bh with
      | false =>
        have hr : r = 4 := by
          rw [HR.out]
          rcases hs12 with rfl | rfl <;> rfl
        subst hr
        go_enter Tryz.func39, Tryz.ntmps39
        go_wp2_with fail
        with_reducible refine (HN.out _).mono ?_
        rintro e w2 ⟨rfl, rfl⟩
        go_wp2_with fail
        with_reducible refine (HH.out _).mono ?_
        rintro e w2 ⟨rfl, rfl⟩
        go_wp2
        go_ret
        exact ⟨rfl, HB1.out⟩
      | true =>
        rcases hs12 with rfl | rfl
        · have HR1 : Hid (r = err5 bb6 12) := by
            have := HR.out
            rw [if_pos rfl] at this
            generalize bb6 = b at *
            cases b <;> exact this
          clear HR
          go_enter Tryz.func39, Tryz.ntmps39
          go_wp2_with fail
          with_reducible refine (HN.out _).mono ?_
          rintro e w2 ⟨rfl, rfl⟩
          go_wp2_with fail
          with_reducible refine (HH.out _).mono ?_
          rintro e w2 ⟨rfl, rfl⟩
          by_cases hm0 : ml = ⟨#[]⟩
          · subst hm0
            cases dis with
            | true =>
              have hr : r = 12 := by rw [HR1.out, HBA.out]; rfl
              subst hr
              clear HR1 HBA
              go_wp2
              go_ret
              exact ⟨rfl, HB1.out⟩
            | false =>
              by_cases hg0 : gs = []
              · have hr : r = 0 := by rw [HR1.out, HBA.out, hg0]; rfl
                subst hg0
                subst hr
                clear HR1 HBA
                go_wp2
                go_ret
                exact ⟨rfl, HB1.out⟩
              · have hr : r = 12 := by rw [HR1.out, HBA.out, decide_eq_false hg0]; rfl
                have hz : (gs.length : Int) > 0 := by have := List.length_pos_iff.2 hg0; omega
                have hz2 : 0 < gs.length := List.length_pos_iff.2 hg0
                subst hr
                clear HR1 HBA
                go_wp2
                go_ret
                exact ⟨rfl, HB1.out⟩
          · have hr : r = 12 := by rw [HR1.out, HBA.out, decide_eq_false hm0]; rfl
            have hne := toList_ne6 hm0
            have hne1 : ¬ ml.toList = [] := fun e => hne (by rw [e, ByteArray.toList_eq])
            have hne2 : ml.toList.isEmpty = false := by simpa using hne1
            subst hr
            clear HR1 HBA hm0
            go_wp2
            go_ret
            exact ⟨rfl, HB1.out⟩
        · have HR1 : Hid (r = first6 [err5 (fold6 ml) 11, err5 (decide (gs.length ≤ 6)) 7, err5 (names6 gs) 10, err5 (rise6 gs) 9]) := by
            have := HR.out
            rw [if_neg (by decide)] at this
            exact this
          clear HR HBA
          by_cases hm0 : ml = ⟨#[]⟩
          · subst hm0
            have HRT : Hid (r = first6 [err5 (decide (gs.length ≤ 6)) 7, err5 (names6 gs) 10, err5 (rise6 gs) 9]) := HR1
            clear HR1 HM
            go_enter Tryz.func39, Tryz.ntmps39
            go_wp2_with fail
            generalize w.alloc (.cells #[.string nm, .string hs, .string ⟨#[]⟩, .bool dis, .slice A gs.length c] 43) = W0 at *
            with_reducible refine (HN.out _).mono ?_
            rintro e w2 ⟨rfl, rfl⟩
            go_wp2_with fail
            with_reducible refine (HH.out _).mono ?_
            rintro e w2 ⟨rfl, rfl⟩
            have HAW := HA1
            have HBW := HB1
            have HRW := HRD
            clear HA1 HB1 HRD HN HH c0 c1 c3 c4
            have HR6 : Hid (r = first6 [err5 (decide (gs.length ≤ 6)) 7, err5 (names6 gs) 10, err5 (rise6 gs) 9]) := HRT
            clear HRT
            have c4 : _ = some (.slice A gs.length c : Value) := HAW.out.c4
            by_cases h6 : gs.length ≤ 6
            · have z6 : ¬ (gs.length : Int) > 6 := by omega
              have z6' : ¬ 6 < gs.length := by omega
              have HR7 : Hid (r = first6 [err5 (names6 gs) 10, err5 (rise6 gs) 9]) := by
                have := HR6.out
                rw [decide_eq_true h6] at this
                exact this
              clear HR6
              go_wp2
              go_loopg [8, 64] gs.length (fun gg _ s64 wr => ∃ k : Nat, k ≤ gs.length ∧ gs.length - k ≤ gg ∧ s64 = .int .i64 k ∧ wr = w2 ∧ Hid (∀ j (h : j < gs.length), j < k → name5 gs[j].data.toList = true))
              case atStart => exact ⟨0, Nat.zero_le _, by omega, rfl, rfl, fun j _ hj => absurd hj (Nat.not_lt_zero _)⟩
              case round =>
                obtain ⟨k, hk, hg, rfl, rfl, HT⟩ := hrel
                by_cases hlt : k < gs.length
                · have hltz : (k : Int) < (gs.length : Int) := by omega
                  obtain ⟨bb, off, rfl, hcell⟩ := HRW.out.at6 k hlt
                  have HN1 := Lib.hid (rname_calls gs[k] wr (HGS.out _ (List.getElem_mem hlt)))
                  have HX : Hid (name5 gs[k].data.toList = true → ∀ j (h : j < gs.length), j < k + 1 → name5 gs[j].data.toList = true) := fun hq j h hj => by
                    by_cases e : j = k
                    · subst e; exact hq
                    · exact HT.out j h (by omega)
                  have HF : Hid (name5 gs[k].data.toList = false → r = 10) := fun hf => by
                    have : names6 gs = false := List.all_eq_false.2 ⟨gs[k], List.getElem_mem hlt, by rw [hf]; simp⟩
                    rw [HR7.out, this]; rfl
                  clear HT
                  generalize gs[k] = x at *
                  generalize name5 x.data.toList = b at *
                  cases b with
                  | true =>
                    have HY := Lib.hid (HX.out rfl)
                    clear HX HF
                    go_wp2_with (go_at_call 62; (with_reducible refine HN1.out.mono ?_); rintro e w3 ⟨rfl, rfl⟩)
                    go_roundg (gs.length - (k + 1))
                    case measure => omega
                    case rel => exact ⟨k + 1, by omega, by omega, by go_num, rfl, HY⟩
                  | false =>
                    have hr : r = 10 := HF.out rfl
                    subst hr
                    clear HX HF HR7
                    go_wp2_with (go_at_call 62; (with_reducible refine HN1.out.mono ?_); rintro e w3 ⟨rfl, rfl⟩)
                    go_ret
                    exact ⟨rfl, HBW.out⟩
                · have hltz : ¬ (k : Int) < (gs.length : Int) := by omega
                  obtain rfl : k = gs.length := by omega
                  have HR8 : Hid (r = err5 (rise6 gs) 9) := by
                    have : names6 gs = true := by
                      unfold names6
                      rw [List.all_eq_true]
                      intro x hx
                      obtain ⟨j, hj, rfl⟩ := List.getElem_of_mem hx
                      exact HT.out j hj hj
                    have h := HR7.out
                    rw [this] at h
                    generalize rise6 gs = b at *
                    cases b <;> exact h
                  clear HT HR7
                  go_wp2
                  go_loopg [9, 10, 75] gs.length (fun gg _ _ s75 w9 => ∃ k : Nat, k ≤ gs.length ∧ gs.length - k ≤ gg ∧ s75 = .int .i64 k ∧ w9 = wr ∧ Hid (∀ j (h : j + 1 < gs.length), j + 1 < k → ahead6 gs[j] gs[j + 1] = true))
                  case atStart => exact ⟨0, Nat.zero_le _, by omega, rfl, rfl, fun j _ hj => absurd hj (by omega)⟩
                  case round =>
                    obtain ⟨k, hk, hg, rfl, hw9, HT⟩ := hrel
                    subst hw9
                    by_cases hlt : k < gs.length
                    · have hltz : (k : Int) < (gs.length : Int) := by omega
                      obtain ⟨bb, off, hA1, hcell⟩ := HRW.out.at6 k hlt
                      by_cases hk0 : k = 0
                      · have hz0 : ¬ (k : Int) > 0 := by omega
                        have hz0' : ¬ 0 < (k : Int) := by omega
                        have HY : Hid (∀ j (h : j + 1 < gs.length), j + 1 < k + 1 → ahead6 gs[j] gs[j + 1] = true) := fun j h hj => absurd hj (by omega)
                        subst hA1
                        generalize gs[k] = x at *
                        clear HT hk0
                        go_wp2
                        go_roundg (gs.length - (k + 1))
                        case measure => omega
                        case rel => exact ⟨k + 1, by omega, by omega, by go_num, rfl, HY⟩
                      · have hkl' : k - 1 < gs.length := by omega
                        obtain ⟨bb', off', hA2, hcell'⟩ := HRW.out.at6 (k - 1) hkl'
                        obtain ⟨rfl, rfl⟩ : bb' = bb ∧ off' = off := by
                          rw [hA1] at hA2
                          simp at hA2
                          exact ⟨hA2.1.symm, hA2.2.symm⟩
                        subst hA1
                        have hz0 : (k : Int) > 0 := by omega
                        have zk : (k : Int) - 1 = ((k - 1 : Nat) : Int) := by omega
                        have hwr : IntKind.i64.wrap ((k - 1 : Nat) : Int) = ((k - 1 : Nat) : Int) := IntWalk.i64_in _ (by omega)
                        have z1 : ((k - 1 : Nat) : Int) < (gs.length : Int) := by omega
                        have hle := leq6_eq gs[k] gs[k - 1]
                        have HX : Hid (ahead6 gs[k - 1] gs[k] = true → ∀ j (h : j + 1 < gs.length), j + 1 < k + 1 → ahead6 gs[j] gs[j + 1] = true) := fun hq j h hj => by
                          by_cases e : j = k - 1
                          · subst e
                            have : gs[k - 1 + 1] = gs[k] := by congr 1; omega
                            rw [this]; exact hq
                          · exact HT.out j h (by omega)
                        have HF : Hid (ahead6 gs[k - 1] gs[k] = false → r = 9) := fun hf => by
                          have : rise6 gs = false := rise6_bad gs (k - 1) (by omega) (by
                            have : gs[k - 1 + 1] = gs[k] := by congr 1; omega
                            rw [this]; exact hf)
                          rw [HR8.out, this]; rfl
                        clear HT
                        generalize ahead6 gs[k - 1] gs[k] = b at *
                        generalize gs[k] = x at *
                        generalize gs[k - 1] = y at *
                        cases b with
                        | true =>
                          have HY := Lib.hid (HX.out rfl)
                          have hle2 : Op.bytesLess x.toList y.toList = false ∧ (x.toList == y.toList) = false := by simpa using hle
                          obtain ⟨hbl, hbe⟩ := hle2
                          have hbn : ¬ x.toList = y.toList := by simpa using hbe
                          clear HX HF hle
                          go_wp2
                          go_roundg (gs.length - (k + 1))
                          case measure => omega
                          case rel => exact ⟨k + 1, by omega, by omega, by go_num, rfl, HY⟩
                        | false =>
                          have hr : r = 9 := HF.out rfl
                          subst hr
                          clear HX HF HR8
                          have hle2 : Op.bytesLess x.toList y.toList = true ∨ x.toList = y.toList := by simpa using hle
                          clear hle
                          rcases hle2 with hbl | hbe
                          · go_wp2
                            go_ret
                            exact ⟨rfl, HBW.out⟩
                          · obtain rfl := toList_eq6 hbe
                            clear hbe
                            go_wp2
                            go_ret
                            exact ⟨rfl, HBW.out⟩
                    · have hltz : ¬ (k : Int) < (gs.length : Int) := by omega
                      have hr : r = 0 := by
                        have : rise6 gs = true := rise6_all gs (fun j h => HT.out j h (by omega))
                        rw [HR8.out, this]; rfl
                      subst hr
                      clear HT HR8
                      go_wp2
                      go_ret
                      exact ⟨rfl, HBW.out⟩
            · have z6 : (gs.length : Int) > 6 := by omega
              have z6' : 6 < gs.length := by omega
              have hr : r = 7 := by
                rw [HR6.out, decide_eq_false h6]; rfl
              subst hr
              clear HR6
              go_wp2
              go_ret
              exact ⟨rfl, HBW.out⟩
          · have hne := toList_ne6 hm0
            have hne1 : ¬ ml.toList = [] := fun e => hne (by rw [e, ByteArray.toList_eq])
            have hne2 : ml.toList.isEmpty = false := by simpa using hne1
            have hf6 : fold6 ml = (mail5 ml.data.toList && decide (mailT ml.data.toList = ml)) := by
              unfold fold6
              have : ¬ ml.size = 0 := fun e => hm0 (by
                obtain ⟨d⟩ := ml
                obtain rfl : d = #[] := Array.eq_empty_of_size_eq_zero e
                rfl)
              rw [decide_eq_false this, Bool.false_or]
            rw [hf6] at HR1
            clear hf6 hm0
            generalize mail5 ml.data.toList = bm at *
            generalize mailT ml.data.toList = t at *
            go_enter Tryz.func39, Tryz.ntmps39
            go_wp2_with fail
            generalize w.alloc (.cells #[.string nm, .string hs, .string ml, .bool dis, .slice A gs.length c] 43) = W1 at *
            with_reducible refine (HN.out _).mono ?_
            rintro e w2 ⟨rfl, rfl⟩
            go_wp2_with fail
            with_reducible refine (HH.out _).mono ?_
            rintro e w2 ⟨rfl, rfl⟩
            go_wp2_with fail
            with_reducible refine (HM.out _).mono ?_
            rintro e w2 ⟨rfl, q, rfl⟩
            have HAW := Lib.hid (HA1.out.below (below_drewN (Below.refl w2.heap.size w2) q))
            have HBW := Lib.hid (below_drewN HB1.out q)
            have HRW := Lib.hid (HRD.out.below (below_drewN (Below.refl w2.heap.size w2) q))
            clear HA1 HB1 HRD HN HH HM c0 c1 c2 c3 c4
            generalize w2.drewN q = W0 at *
            have c2 : _ = some (.string ml : Value) := HAW.out.c2
            cases bm with
            | false =>
              have hr : r = 11 := HR1.out
              subst hr
              clear HR1
              go_wp2
              go_ret
              exact ⟨rfl, HBW.out⟩
            | true =>
              by_cases htm : t = ml
              · have HRT : Hid (r = first6 [err5 (decide (gs.length ≤ 6)) 7, err5 (names6 gs) 10, err5 (rise6 gs) 9]) := by
                  have := HR1.out
                  rw [decide_eq_true htm] at this
                  exact this
                subst htm
                clear HR1
                have HR6 : Hid (r = first6 [err5 (decide (gs.length ≤ 6)) 7, err5 (names6 gs) 10, err5 (rise6 gs) 9]) := HRT
                clear HRT
                have c4 : _ = some (.slice A gs.length c : Value) := HAW.out.c4
                by_cases h6 : gs.length ≤ 6
                · have z6 : ¬ (gs.length : Int) > 6 := by omega
                  have z6' : ¬ 6 < gs.length := by omega
                  have HR7 : Hid (r = first6 [err5 (names6 gs) 10, err5 (rise6 gs) 9]) := by
                    have := HR6.out
                    rw [decide_eq_true h6] at this
                    exact this
                  clear HR6
                  go_wp2
                  go_loopg [8, 64] gs.length (fun gg _ s64 wr => ∃ k : Nat, k ≤ gs.length ∧ gs.length - k ≤ gg ∧ s64 = .int .i64 k ∧ wr = W0 ∧ Hid (∀ j (h : j < gs.length), j < k → name5 gs[j].data.toList = true))
                  case atStart => exact ⟨0, Nat.zero_le _, by omega, rfl, rfl, fun j _ hj => absurd hj (Nat.not_lt_zero _)⟩
                  case round =>
                    obtain ⟨k, hk, hg, rfl, rfl, HT⟩ := hrel
                    by_cases hlt : k < gs.length
                    · have hltz : (k : Int) < (gs.length : Int) := by omega
                      obtain ⟨bb, off, rfl, hcell⟩ := HRW.out.at6 k hlt
                      have HN1 := Lib.hid (rname_calls gs[k] wr (HGS.out _ (List.getElem_mem hlt)))
                      have HX : Hid (name5 gs[k].data.toList = true → ∀ j (h : j < gs.length), j < k + 1 → name5 gs[j].data.toList = true) := fun hq j h hj => by
                        by_cases e : j = k
                        · subst e; exact hq
                        · exact HT.out j h (by omega)
                      have HF : Hid (name5 gs[k].data.toList = false → r = 10) := fun hf => by
                        have : names6 gs = false := List.all_eq_false.2 ⟨gs[k], List.getElem_mem hlt, by rw [hf]; simp⟩
                        rw [HR7.out, this]; rfl
                      clear HT
                      generalize gs[k] = x at *
                      generalize name5 x.data.toList = b at *
                      cases b with
                      | true =>
                        have HY := Lib.hid (HX.out rfl)
                        clear HX HF
                        go_wp2_with (go_at_call 62; (with_reducible refine HN1.out.mono ?_); rintro e w3 ⟨rfl, rfl⟩)
                        go_roundg (gs.length - (k + 1))
                        case measure => omega
                        case rel => exact ⟨k + 1, by omega, by omega, by go_num, rfl, HY⟩
                      | false =>
                        have hr : r = 10 := HF.out rfl
                        subst hr
                        clear HX HF HR7
                        go_wp2_with (go_at_call 62; (with_reducible refine HN1.out.mono ?_); rintro e w3 ⟨rfl, rfl⟩)
                        go_ret
                        exact ⟨rfl, HBW.out⟩
                    · have hltz : ¬ (k : Int) < (gs.length : Int) := by omega
                      obtain rfl : k = gs.length := by omega
                      have HR8 : Hid (r = err5 (rise6 gs) 9) := by
                        have : names6 gs = true := by
                          unfold names6
                          rw [List.all_eq_true]
                          intro x hx
                          obtain ⟨j, hj, rfl⟩ := List.getElem_of_mem hx
                          exact HT.out j hj hj
                        have h := HR7.out
                        rw [this] at h
                        generalize rise6 gs = b at *
                        cases b <;> exact h
                      clear HT HR7
                      go_wp2
                      go_loopg [9, 10, 75] gs.length (fun gg _ _ s75 w9 => ∃ k : Nat, k ≤ gs.length ∧ gs.length - k ≤ gg ∧ s75 = .int .i64 k ∧ w9 = wr ∧ Hid (∀ j (h : j + 1 < gs.length), j + 1 < k → ahead6 gs[j] gs[j + 1] = true))
                      case atStart => exact ⟨0, Nat.zero_le _, by omega, rfl, rfl, fun j _ hj => absurd hj (by omega)⟩
                      case round =>
                        obtain ⟨k, hk, hg, rfl, hw9, HT⟩ := hrel
                        subst hw9
                        by_cases hlt : k < gs.length
                        · have hltz : (k : Int) < (gs.length : Int) := by omega
                          obtain ⟨bb, off, hA1, hcell⟩ := HRW.out.at6 k hlt
                          by_cases hk0 : k = 0
                          · have hz0 : ¬ (k : Int) > 0 := by omega
                            have hz0' : ¬ 0 < (k : Int) := by omega
                            have HY : Hid (∀ j (h : j + 1 < gs.length), j + 1 < k + 1 → ahead6 gs[j] gs[j + 1] = true) := fun j h hj => absurd hj (by omega)
                            subst hA1
                            generalize gs[k] = x at *
                            clear HT hk0
                            go_wp2
                            go_roundg (gs.length - (k + 1))
                            case measure => omega
                            case rel => exact ⟨k + 1, by omega, by omega, by go_num, rfl, HY⟩
                          · have hkl' : k - 1 < gs.length := by omega
                            obtain ⟨bb', off', hA2, hcell'⟩ := HRW.out.at6 (k - 1) hkl'
                            obtain ⟨rfl, rfl⟩ : bb' = bb ∧ off' = off := by
                              rw [hA1] at hA2
                              simp at hA2
                              exact ⟨hA2.1.symm, hA2.2.symm⟩
                            subst hA1
                            have hz0 : (k : Int) > 0 := by omega
                            have zk : (k : Int) - 1 = ((k - 1 : Nat) : Int) := by omega
                            have hwr : IntKind.i64.wrap ((k - 1 : Nat) : Int) = ((k - 1 : Nat) : Int) := IntWalk.i64_in _ (by omega)
                            have z1 : ((k - 1 : Nat) : Int) < (gs.length : Int) := by omega
                            have hle := leq6_eq gs[k] gs[k - 1]
                            have HX : Hid (ahead6 gs[k - 1] gs[k] = true → ∀ j (h : j + 1 < gs.length), j + 1 < k + 1 → ahead6 gs[j] gs[j + 1] = true) := fun hq j h hj => by
                              by_cases e : j = k - 1
                              · subst e
                                have : gs[k - 1 + 1] = gs[k] := by congr 1; omega
                                rw [this]; exact hq
                              · exact HT.out j h (by omega)
                            have HF : Hid (ahead6 gs[k - 1] gs[k] = false → r = 9) := fun hf => by
                              have : rise6 gs = false := rise6_bad gs (k - 1) (by omega) (by
                                have : gs[k - 1 + 1] = gs[k] := by congr 1; omega
                                rw [this]; exact hf)
                              rw [HR8.out, this]; rfl
                            clear HT
                            generalize ahead6 gs[k - 1] gs[k] = b at *
                            generalize gs[k] = x at *
                            generalize gs[k - 1] = y at *
                            cases b with
                            | true =>
                              have HY := Lib.hid (HX.out rfl)
                              have hle2 : Op.bytesLess x.toList y.toList = false ∧ (x.toList == y.toList) = false := by simpa using hle
                              obtain ⟨hbl, hbe⟩ := hle2
                              have hbn : ¬ x.toList = y.toList := by simpa using hbe
                              clear HX HF hle
                              go_wp2
                              go_roundg (gs.length - (k + 1))
                              case measure => omega
                              case rel => exact ⟨k + 1, by omega, by omega, by go_num, rfl, HY⟩
                            | false =>
                              have hr : r = 9 := HF.out rfl
                              subst hr
                              clear HX HF HR8
                              have hle2 : Op.bytesLess x.toList y.toList = true ∨ x.toList = y.toList := by simpa using hle
                              clear hle
                              rcases hle2 with hbl | hbe
                              · go_wp2
                                go_ret
                                exact ⟨rfl, HBW.out⟩
                              · obtain rfl := toList_eq6 hbe
                                clear hbe
                                go_wp2
                                go_ret
                                exact ⟨rfl, HBW.out⟩
                        · have hltz : ¬ (k : Int) < (gs.length : Int) := by omega
                          have hr : r = 0 := by
                            have : rise6 gs = true := rise6_all gs (fun j h => HT.out j h (by omega))
                            rw [HR8.out, this]; rfl
                          subst hr
                          clear HT HR8
                          go_wp2
                          go_ret
                          exact ⟨rfl, HBW.out⟩
                · have z6 : (gs.length : Int) > 6 := by omega
                  have z6' : 6 < gs.length := by omega
                  have hr : r = 7 := by
                    rw [HR6.out, decide_eq_false h6]; rfl
                  subst hr
                  clear HR6
                  go_wp2
                  go_ret
                  exact ⟨rfl, HBW.out⟩
              · have hr : r = 11 := by rw [HR1.out, decide_eq_false htm]; rfl
                have htn := toList_ne6 htm
                have htn2 : (t.toList == ml.toList) = false := by simpa using htn
                have htn3 : (t.toList != ml.toList) = true := by simpa using htn
                subst hr
                clear HR1 htm
                go_wp2
                go_ret
                exact ⟨rfl, HBW.out⟩
  · have hkf : know6 s = false := by simpa using hk
    have hr : r = 6 := by
      rw [HR.out, hkf]
      have h1 : ¬ s = 1 := fun e => by subst e; exact hk rfl
      rw [if_neg h1]; rfl
    have hs12 : ¬ s = 1 ∧ ¬ s = 2 := by simpa [know6] using hkf
    subst hr
    clear HR hk hkf
    by_cases hl : s < 1
    · go_enter Tryz.func39, Tryz.ntmps39
      go_wp2
      go_ret
      exact ⟨rfl, HB1.out⟩
    · have hg : s > 2 := by omega
      have hg2 : 2 < s := by omega
      go_enter Tryz.func39, Tryz.ntmps39
      go_wp2
      go_ret
      exact ⟨rfl, HB1.out⟩
end Go.Proofs.YtoeepbmbfambcaaGreatDoor

namespace Go.Proofs.YtoeepbmbfambcaaGreatDoor
open Go.RowKit

theorem size6R : (Tryz.prog.info? 68).map (·.size) = some 2 := by kernel_rfl
theorem size6U : (Tryz.prog.info? 43).map (·.size) = some 5 := by kernel_rfl
theorem alloc_at6 {W : World} {o : Obj} {n : Nat} (h : W.heap.size = n) : (W.alloc o).heap[n]? = some o := h ▸ heap_alloc_new W o
theorem alloc_old6 {W : World} {o x : Obj} {k : Nat} (h : W.heap[k]? = some x) : (W.alloc o).heap[k]? = some x :=
  (((Turns.refl (fun _ => False) W).alloc o).block k (Array.getElem?_eq_some_iff.1 h).1 (fun f => f)).trans h
/-- A whole row is stored, in a region that draws its order. -/
theorem step_store6 {P : Program} {ops : Array Oper} {o : Oper} {a : Act} {w : World} {K : Act → World → Prop} {Q : Exit → Act → World → Prop} {E : Prop} (hw : Region.wanted o (yielded ops a.tmps) = true) (ty : TypeId) (x y : Operand) (ho : o.op = .store ty x y)
    (B : Nat) (hx : a.eval x = .pointer (some ⟨B, 0, none⟩)) (cs : Array Value) (hy : a.eval y = .agg cs) (t : TypeId) (old : Array Value) (hn : w.heap[B]? = some (.cells old t (0, 0))) (hi : (P.info? ty).map (·.size) = some cs.size) (hold : old.size = cs.size) (h1 : cs.all (·.oneCell') = true)
    (h : K (a.put o.dst undef) (w.setRow B cs)) : if Region.wanted o (yielded ops a.tmps) = true then Oper.wp P o a w K Q else E := by
  rw [if_pos hw]
  exact wp_store_row ty x y ho B cs hx hy t old hn hi hold h1 h

/-- The document's Get under way: the reader, both answers' blocks, none, and the user that is read, all new since w. -/
structure Rf6 (w : World) (rs qs ys : Array Value) (vs : Option (Array Value)) (W : World) : Prop where
  r : W.heap[w.heap.size]? = some (.cells rs 68 (0, 0))
  q : W.heap[w.heap.size + 1]? = some (.cells qs 68 (0, 0))
  y : W.heap[w.heap.size + 2]? = some (.cells ys 43 (0, 0))
  z : W.heap[w.heap.size + 3]? = some (.cells #[.string ⟨#[]⟩, .string ⟨#[]⟩, .string ⟨#[]⟩, .bool false, .slice none 0 0] 43 (0, 0))
  v : ∀ xs, vs = some xs → W.heap[w.heap.size + 4]? = some (.cells xs 43 (0, 0))
  t : Turns (fun _ => False) w W
/-- The row of the user that is read, new since then. -/
def Own6 (w : World) (A : Option Addr) (gs : List ByteArray) (c : Nat) (W : World) : Prop := W.ownsRow 0 9 1 (.slice A gs.length c) gs.length (gs.map Value.string) ∧ ∀ j, Value.ownBlock (.slice A gs.length c) = some j → w.heap.size + 5 ≤ j
theorem Own6.none (w W : World) : Own6 w none [] 0 W := ⟨World.ownsRow_nil _ _ _ _, by simp [Value.ownBlock]⟩
theorem Own6.turns {w W W' : World} {A : Option Addr} {gs : List ByteArray} {c : Nat} {S : Nat → Prop} (h : Own6 w A gs c W) (ht : Turns S W W') (hS : ∀ j, S j → j < w.heap.size + 5) : Own6 w A gs c W' :=
  ⟨ht.owns h.1 (fun j hj hs => by have := h.2 j hj; have := hS j hs; omega), h.2⟩
theorem Own6.below {w W W' : World} {A : Option Addr} {gs : List ByteArray} {c : Nat} (h : Own6 w A gs c W) (hb : Below W.heap.size W W') : Own6 w A gs c W' := h.turns (Turns.of_below hb (fun _ => False)) (fun _ f => f.elim)
theorem Own6.row {w W : World} {A : Option Addr} {gs : List ByteArray} {c : Nat} (h : Own6 w A gs c W) (g : Nat) (hg : g < w.heap.size + 5) (cs : Array Value) : Own6 w A gs c (W.setRow g cs) :=
  h.turns (S := fun i => i = g) ⟨rfl, rfl, rfl, by simp, fun k _ hk => setRow_other W g k cs hk⟩ (fun j hj => by omega)

section
variable {w W W' : World} {rs qs ys : Array Value} {vs : Option (Array Value)}
theorem Rf6.still (h : Rf6 w rs qs ys vs W) (ht : Turns (fun _ => False) W W') : Rf6 w rs qs ys vs W' :=
  have k : ∀ {B : Nat} {o : Obj}, W.heap[B]? = some o → W'.heap[B]? = some o := fun hb => (ht.block _ (Array.getElem?_eq_some_iff.1 hb).1 (fun f => f)).trans hb
  ⟨k h.r, k h.q, k h.y, k h.z, fun xs e => k (h.v xs e), h.t.next ht (fun _ _ f => f)⟩
theorem Rf6.below (h : Rf6 w rs qs ys vs W) (hb : Below W.heap.size W W') : Rf6 w rs qs ys vs W' := h.still (Turns.of_below hb _)
theorem Rf6.setR (h : Rf6 w rs qs ys vs W) (cs : Array Value) : Rf6 w cs qs ys vs (W.setRow w.heap.size cs) :=
  ⟨setRow_heap W _ _ cs _ _ h.r, (setRow_other W _ _ cs (by omega)).trans h.q, (setRow_other W _ _ cs (by omega)).trans h.y, (setRow_other W _ _ cs (by omega)).trans h.z, fun xs e => (setRow_other W _ _ cs (by omega)).trans (h.v xs e), h.t.next (S' := fun i => i = w.heap.size) ⟨rfl, rfl, rfl, by simp, fun k _ hk => setRow_other W _ k cs hk⟩ (fun i hi he => by omega)⟩
theorem Rf6.setQ (h : Rf6 w rs qs ys vs W) (cs : Array Value) : Rf6 w rs cs ys vs (W.setRow (w.heap.size + 1) cs) :=
  ⟨(setRow_other W _ _ cs (by omega)).trans h.r, setRow_heap W _ _ cs _ _ h.q, (setRow_other W _ _ cs (by omega)).trans h.y, (setRow_other W _ _ cs (by omega)).trans h.z, fun xs e => (setRow_other W _ _ cs (by omega)).trans (h.v xs e), h.t.next (S' := fun i => i = w.heap.size + 1) ⟨rfl, rfl, rfl, by simp, fun k _ hk => setRow_other W _ k cs hk⟩ (fun i hi he => by omega)⟩
theorem Rf6.setY (h : Rf6 w rs qs ys vs W) (cs : Array Value) : Rf6 w rs qs cs vs (W.setRow (w.heap.size + 2) cs) :=
  ⟨(setRow_other W _ _ cs (by omega)).trans h.r, (setRow_other W _ _ cs (by omega)).trans h.q, setRow_heap W _ _ cs _ _ h.y, (setRow_other W _ _ cs (by omega)).trans h.z, fun xs e => (setRow_other W _ _ cs (by omega)).trans (h.v xs e), h.t.next (S' := fun i => i = w.heap.size + 2) ⟨rfl, rfl, rfl, by simp, fun k _ hk => setRow_other W _ k cs hk⟩ (fun i hi he => by omega)⟩
/-- The reader goes on, and a field is stored. -/
theorem Rf6.read {a b a' b' x : Value} {j : Nat} {xs xs' : Array Value} (h : Rf6 w #[a, b] qs ys (some xs) W) (hx : xs.setIfInBounds j x = xs') :
    Rf6 w #[a', b'] qs ys (some xs') (((W.setCell ⟨w.heap.size, 0, none⟩ a').setCell ⟨w.heap.size, 1, none⟩ b').setCell ⟨w.heap.size + 4, j, none⟩ x) := by
  have hr := h.r
  have hv := h.v xs rfl
  have o : ∀ {B : Nat} {o : Obj}, B ≠ w.heap.size → B ≠ w.heap.size + 4 → W.heap[B]? = some o → (((W.setCell ⟨w.heap.size, 0, none⟩ a').setCell ⟨w.heap.size, 1, none⟩ b').setCell ⟨w.heap.size + 4, j, none⟩ x).heap[B]? = some o := fun h1 h2 hb => by
    rw [Below.heap_setCell _ _ _ _ h2, Below.heap_setCell _ _ _ _ h1, Below.heap_setCell _ _ _ _ h1]
    exact hb
  refine ⟨?_, o (by omega) (by omega) h.q, o (by omega) (by omega) h.y, o (by omega) (by omega) h.z, fun ys e => ?_, ((h.t.setCell (p := ⟨w.heap.size, 0, none⟩) (fun hl => absurd hl (by simp)) _).setCell (p := ⟨w.heap.size, 1, none⟩) (fun hl => absurd hl (by simp)) _).setCell (p := ⟨w.heap.size + 4, j, none⟩) (fun hl => absurd hl (by simp)) _⟩
  · rw [Below.heap_setCell _ _ _ _ (show w.heap.size ≠ w.heap.size + 4 by omega)]
    simp [World.setCell, Array.getElem?_modify, hr]
  · injection e with e
    subst e
    subst hx
    have hv2 : ((W.setCell ⟨w.heap.size, 0, none⟩ a').setCell ⟨w.heap.size, 1, none⟩ b').heap[w.heap.size + 4]? = some (.cells xs 43 (0, 0)) := by
      rw [Below.heap_setCell _ _ _ _ (show w.heap.size + 4 ≠ w.heap.size by omega), Below.heap_setCell _ _ _ _ (show w.heap.size + 4 ≠ w.heap.size by omega)]
      exact hv
    generalize (W.setCell ⟨w.heap.size, 0, none⟩ a').setCell ⟨w.heap.size, 1, none⟩ b' = W2 at *
    simp [World.setCell, Array.getElem?_modify, hv2]
theorem Rf6.start (w : World) (a b : Value) : Rf6 w #[a, b] #[.string ⟨#[]⟩, .int .i64 0] #[.string ⟨#[]⟩, .string ⟨#[]⟩, .string ⟨#[]⟩, .bool false, .slice none 0 0] none ((((w.alloc (.cells #[a, b] 68)).alloc (.cells #[.string ⟨#[]⟩, .int .i64 0] 68)).alloc (.cells #[.string ⟨#[]⟩, .string ⟨#[]⟩, .string ⟨#[]⟩, .bool false, .slice none 0 0] 43)).alloc (.cells #[.string ⟨#[]⟩, .string ⟨#[]⟩, .string ⟨#[]⟩, .bool false, .slice none 0 0] 43)) :=
  ⟨alloc_old6 (alloc_old6 (alloc_old6 (alloc_at6 rfl))), alloc_old6 (alloc_old6 (alloc_at6 (by simp))), alloc_old6 (alloc_at6 (by simp)), alloc_at6 (by simp), (fun _ h => nomatch h), ((((Turns.refl _ _).alloc _).alloc _).alloc _).alloc _⟩
theorem Rf6.user (h : Rf6 w rs qs ys none W) (hs : W.heap.size = w.heap.size + 4) (xs : Array Value) : Rf6 w rs qs ys (some xs) (W.alloc (.cells xs 43)) :=
  ⟨alloc_old6 h.r, alloc_old6 h.q, alloc_old6 h.y, alloc_old6 h.z, fun ys e => by injection e with e; subst e; exact alloc_at6 hs, h.t.alloc _⟩
theorem cell6 {B : Nat} {xs : Array Value} {t : TypeId} (h : W.heap[B]? = some (.cells xs t (0, 0))) (j : Nat) : W.cell? ⟨B, j, none⟩ = xs[j]? := cell_of_row W B j _ _ (0, 0) h
theorem free6 {B : Nat} {xs : Array Value} {t : TypeId} (h : W.heap[B]? = some (.cells xs t (0, 0))) (j : Nat) : W.frozen? ⟨B, j, none⟩ = false := by simp [World.frozen?, h]
end

/-- What the check's region makes. -/
def YC6 (s : Int) (ra vv : Value) (ck : Int) (rb : Value) : Nat → Value → World → Prop
  | 0, v, _ => v = ra
  | 1, v, _ => v = .int .i64 s
  | 2, v, _ => v = vv
  | 3, v, _ => v = .int .i64 ck
  | 4, v, _ => v = rb
  | _, _, _ => True
theorem YC6_keep {s : Int} {ra vv : Value} {ck : Int} {rb : Value} {W W' : World} (j : Nat) (z : Value) (h : YC6 s ra vv ck rb j z W) : YC6 s ra vv ck rb j z W' := by
  match j, h with
  | 0, h => exact h
  | 1, h => exact h
  | 2, h => exact h
  | 3, h => exact h
  | 4, h => exact h
  | _ + 5, h => exact h
/-- Its worlds: until the reader is stored it stands as it was. -/
def GC6 (w : World) (ra rb qs ys : Array Value) (vs : Option (Array Value)) (A : Option Addr) (gs : List ByteArray) (c : Nat) (L : Nat → Bool) (W : World) : Prop :=
  Rf6 w (if L 5 = true then rb else ra) qs ys vs W ∧ Own6 w A gs c W ∧ (L 5 = true → ∀ j, j < 5 → L j = true)
section
variable {w W W' : World} {ra rb qs ys : Array Value} {vs : Option (Array Value)} {A : Option Addr} {gs : List ByteArray} {c : Nat} {L : Nat → Bool}
theorem GC6.no (h : GC6 w ra rb qs ys vs A gs c L W) (i : Nat) (hi : i < 5) (hL : L i = false) : L 5 = false := by
  cases h5 : L 5 with
  | false => rfl
  | true => rw [h.2.2 h5 i hi] at hL; cases hL
theorem GC6.ahead (h : GC6 w ra rb qs ys vs A gs c L W) (i : Nat) (hi : i < 5) (hL : L i = false) : Rf6 w ra qs ys vs W := by
  have := h.1
  rw [h.no i hi hL] at this
  exact this
theorem GC6.quiet (h : GC6 w ra rb qs ys vs A gs c L W) (i : Nat) (hi : i < 5) (hL : L i = false) (hb : Below W.heap.size W W') : GC6 w ra rb qs ys vs A gs c (updL L i) W' := by
  have h5 : updL L i 5 = false := by rw [show updL L i 5 = L 5 from if_neg (by omega)]; exact h.no i hi hL
  refine ⟨?_, h.2.1.below hb, fun e => by rw [h5] at e; cases e⟩
  rw [h5]
  exact (h.ahead i hi hL).below hb
theorem GC6.stored (h : GC6 w ra rb qs ys vs A gs c L W) (hd : ∀ j, j < 5 → L j = true) : GC6 w ra rb qs ys vs A gs c (updL L 5) (W.setRow w.heap.size rb) := by
  refine ⟨?_, h.2.1.row _ (by omega) _, fun _ j hj => by rw [show updL L 5 j = L j from if_neg (by omega)]; exact hd j hj⟩
  rw [show updL L 5 5 = true from if_pos rfl, if_pos rfl]
  exact h.1.setR rb
end
/-- What the last region makes. -/
def YL6 (ra yv : Value) : Nat → Value → World → Prop
  | 0, v, _ => v = ra
  | 1, v, _ => v = yv
  | _, _, _ => True
theorem YL6_keep {ra yv : Value} {W W' : World} (j : Nat) (z : Value) (h : YL6 ra yv j z W) : YL6 ra yv j z W' := by
  match j, h with
  | 0, h => exact h
  | 1, h => exact h
  | _ + 2, h => exact h
/-- Its worlds. -/
def GL6 (w : World) (ra q0 q1 y0 y1 : Array Value) (vs : Option (Array Value)) (A : Option Addr) (gs : List ByteArray) (c : Nat) (L : Nat → Bool) (W : World) : Prop :=
  Rf6 w ra (if L 2 = true then q1 else q0) (if L 3 = true then y1 else y0) vs W ∧ Own6 w A gs c W
section
variable {w W W' : World} {ra q0 q1 y0 y1 : Array Value} {vs : Option (Array Value)} {A : Option Addr} {gs : List ByteArray} {c : Nat} {L : Nat → Bool}
theorem GL6.quiet (h : GL6 w ra q0 q1 y0 y1 vs A gs c L W) (i : Nat) (hi : i < 2) : GL6 w ra q0 q1 y0 y1 vs A gs c (updL L i) W := by
  unfold GL6
  rw [show updL L i 2 = L 2 from if_neg (by omega), show updL L i 3 = L 3 from if_neg (by omega)]
  exact h
theorem GL6.storedQ (h : GL6 w ra q0 q1 y0 y1 vs A gs c L W) : GL6 w ra q0 q1 y0 y1 vs A gs c (updL L 2) (W.setRow (w.heap.size + 1) q1) := by
  unfold GL6
  rw [show updL L 2 2 = true from if_pos rfl, if_pos rfl, show updL L 2 3 = L 3 from if_neg (by omega)]
  exact ⟨h.1.setQ q1, h.2.row _ (by omega) _⟩
theorem GL6.storedY (h : GL6 w ra q0 q1 y0 y1 vs A gs c L W) : GL6 w ra q0 q1 y0 y1 vs A gs c (updL L 3) (W.setRow (w.heap.size + 2) y1) := by
  unfold GL6
  rw [show updL L 3 3 = true from if_pos rfl, if_pos rfl, show updL L 3 2 = L 2 from if_neg (by omega)]
  exact ⟨h.1.setY y1, h.2.row _ (by omega) _⟩
end
theorem ite_block {p : Prop} [Decidable p] {a b : Array Value} {n : Nat} (ha : a.size = n) (hb : b.size = n) : (if p then a else b).size = n := by
  split <;> assumption

/-- The document's Get tells a reader, and a user, or with an error a zero one. -/
def RGot6 (w : World) (st : St) (u : Us) (e : Ending) (w' : World) : Prop := ∃ A c, e = .returned (.tuple #[refV st, (if st.e = 0 then ({ u with ga := A, gc := c } : Us) else zeroU).v]) ∧ w'.ownsRow 0 9 1 (.slice A u.gs.length c) u.gs.length (u.gs.map Value.string) ∧ (∀ j, Value.ownBlock (.slice A u.gs.length c) = some j → w.heap.size ≤ j) ∧ Turns (fun _ => False) w w'
/-- The same, of the first schema: nothing beside the two texts. -/
def RGot61 (w : World) (st : St) (u : Us) (e : Ending) (w' : World) : Prop := e = .returned (.tuple #[refV st, (if st.e = 0 then u else zeroU).v]) ∧ Turns (fun _ => False) w w'

/-- What the region makes that gives up. -/
def YN6 (ra rb yv : Value) : Nat → Value → World → Prop
  | 0, v, _ => v = ra
  | 1, v, _ => v = rb
  | 2, v, _ => v = yv
  | _, _, _ => True
theorem YN6_keep {ra rb yv : Value} {W W' : World} (j : Nat) (z : Value) (h : YN6 ra rb yv j z W) : YN6 ra rb yv j z W' := by
  match j, h with
  | 0, h => exact h
  | 1, h => exact h
  | 2, h => exact h
  | _ + 3, h => exact h
/-- Its worlds. -/
def GN6 (w : World) (ra q0 q1 y0 : Array Value) (L : Nat → Bool) (W : World) : Prop := Rf6 w ra (if L 3 = true then q1 else q0) y0 none W
theorem GN6.quiet {w W W' : World} {ra q0 q1 y0 : Array Value} {L : Nat → Bool} (h : GN6 w ra q0 q1 y0 L W) (i : Nat) (hi : i ≠ 3) (hb : Below W.heap.size W W') : GN6 w ra q0 q1 y0 (updL L i) W' := by
  unfold GN6
  rw [show updL L i 3 = L 3 from if_neg (by omega)]
  exact Rf6.below h hb
theorem GN6.storedQ {w W : World} {ra q0 q1 y0 : Array Value} {L : Nat → Bool} (h : GN6 w ra q0 q1 y0 L W) : GN6 w ra q0 q1 y0 (updL L 3) (W.setRow (w.heap.size + 1) q1) := by
  unfold GN6
  rw [show updL L 3 3 = true from if_pos rfl, if_pos rfl]
  exact Rf6.setQ h q1
theorem GN6.storedY {w W : World} {ra q0 q1 y0 : Array Value} {L : Nat → Bool} (h : GN6 w ra q0 q1 y0 L W) : GN6 w ra q0 q1 y0 (updL L 4) (W.setRow (w.heap.size + 2) y0) := by
  unfold GN6
  rw [show updL L 4 3 = L 3 from if_neg (by omega)]
  exact Rf6.setY h y0

set_option maxRecDepth 100000 in
set_option maxHeartbeats 4000000 in
theorem rget6_none (s : Int) (st : St) (w : World) (hs : know6 s = false) :
    Calls Tryz.prog 57 #[refV st, .int .i64 s] w (RGot6 w (failS st 6) zeroU) := by
  have HFL : Hid (∀ W, Calls Tryz.prog 56 #[.agg #[.string ⟨st.bs.toArray⟩, .int .i64 st.e], .int .i64 6] W fun e w' => e = .returned (.agg #[.string ⟨(failS st 6).bs.toArray⟩, .int .i64 (failS st 6).e]) ∧ Turns (fun _ => False) W w') := fun W => reffail_calls st 6 W
  have HG0 := Lib.hid (Rf6.start w (.string ⟨st.bs.toArray⟩) (.int .i64 st.e))
  have hcase : s < 1 ∨ (¬ s < 1 ∧ 2 < s) := by
    simp only [know6, Bool.or_eq_false_iff, decide_eq_false_iff_not] at hs
    omega
  generalize failS st 6 = s1 at *
  have HP0 : Hid (∀ W, Turns (fun _ => False) w W → RGot6 w s1 zeroU (.returned (.tuple #[.agg #[.string ⟨s1.bs.toArray⟩, .int .i64 s1.e], .agg #[.string ⟨#[]⟩, .string ⟨#[]⟩, .string ⟨#[]⟩, .bool false, .slice none 0 0]])) W) := fun W ht => by
    refine ⟨none, 0, ?_, World.ownsRow_nil _ _ _ _, by simp [Value.ownBlock], ht⟩
    have e : (if s1.e = 0 then ({ zeroU with ga := none, gc := 0 } : Us) else zeroU) = zeroU := by split <;> rfl
    rw [e]
    rfl
  clear hs
  unfold refV
  rcases hcase with hlt | ⟨hlt, hgt⟩
  · have hld : decide (s < 1) = true := decide_eq_true hlt
    go_enter Tryz.func57, Tryz.ntmps57
    go_wp2_with fail
    generalize (((w.alloc (.cells #[.string ⟨st.bs.toArray⟩, .int .i64 st.e] 68)).alloc (.cells #[.string ⟨#[]⟩, .int .i64 0] 68)).alloc (.cells #[.string ⟨#[]⟩, .string ⟨#[]⟩, .string ⟨#[]⟩, .bool false, .slice none 0 0] 43)).alloc (.cells #[.string ⟨#[]⟩, .string ⟨#[]⟩, .string ⟨#[]⟩, .bool false, .slice none 0 0] 43) = W0 at *
    refine wp_region_st2 (by kernel_rfl) (YN6 (.agg #[.string ⟨st.bs.toArray⟩, .int .i64 st.e]) (.agg #[.string ⟨s1.bs.toArray⟩, .int .i64 s1.e]) (.agg #[.string ⟨#[]⟩, .string ⟨#[]⟩, .string ⟨#[]⟩, .bool false, .slice none 0 0])) (GN6 w #[.string ⟨st.bs.toArray⟩, .int .i64 st.e] #[.string ⟨#[]⟩, .int .i64 0] #[.string ⟨s1.bs.toArray⟩, .int .i64 s1.e] #[.string ⟨#[]⟩, .string ⟨#[]⟩, .string ⟨#[]⟩, .bool false, .slice none 0 0]) ?F0 ?hF0 (by kernel_rfl) (by kernel_rfl) (HG0.out.still ((Turns.refl _ _).drew)) ?step0 ?fin0
    case hF0 =>
      intro x
      simp only [List.map_cons, List.map_nil, putL, Act.put, List.setIfInBounds_toArray, List.set_cons_zero, List.set_cons_succ, Nat.zero_add, Nat.reduceAdd]
      exact rfl
    case step0 =>
      refine ⟨?_, ?_, ?_, ?_, ?_, trivial⟩
      all_goals intro L x W hL hd hG hdep K hK
      · have r0 : W.cell? ⟨w.heap.size, 0, none⟩ = some (.string ⟨st.bs.toArray⟩) := cell6 hG.r 0
        have r1 : W.cell? ⟨w.heap.size, 1, none⟩ = some (.int .i64 st.e) := cell6 hG.r 1
        clear hdep
        go_simp
        exact hK _ _ rfl (hG.quiet 0 (by omega) (Below.refl _ _)) (fun _ _ h => h)
      · have h0 : x 0 = _ := hdep 0 rfl
        clear hdep
        simp only [h0] at hK
        go_simp
        refine (HFL.out W).mono ?_
        rintro e W' ⟨rfl, ht⟩
        exact hK _ _ rfl (hG.quiet 1 (by omega) (ht.below (fun _ f => f.elim))) (fun j _ h => YN6_keep j _ h)
      · have k0 : W.cell? ⟨w.heap.size + 3, 0, none⟩ = some (.string ⟨#[]⟩) := cell6 hG.z 0
        have k1 : W.cell? ⟨w.heap.size + 3, 1, none⟩ = some (.string ⟨#[]⟩) := cell6 hG.z 1
        have k2 : W.cell? ⟨w.heap.size + 3, 2, none⟩ = some (.string ⟨#[]⟩) := cell6 hG.z 2
        have k3 : W.cell? ⟨w.heap.size + 3, 3, none⟩ = some (.bool false) := cell6 hG.z 3
        have k4 : W.cell? ⟨w.heap.size + 3, 4, none⟩ = some (.slice none 0 0) := cell6 hG.z 4
        clear hdep
        go_simp
        exact hK _ _ rfl (hG.quiet 2 (by omega) (Below.refl _ _)) (fun _ _ h => h)
      · have h1 : x 1 = .agg #[.string ⟨s1.bs.toArray⟩, .int .i64 s1.e] := hdep 1 rfl
        refine step_store6 (by rfl) 68 (.tmp 4) (.tmp 16) rfl (w.heap.size + 1) rfl _ h1 _ _ hG.q size6R (ite_block rfl rfl) (by simp [Value.oneCell']) ?_
        exact hK _ _ trivial hG.storedQ (fun j _ h => YN6_keep j _ h)
      · have h2 : x 2 = .agg #[.string ⟨#[]⟩, .string ⟨#[]⟩, .string ⟨#[]⟩, .bool false, .slice none 0 0] := hdep 2 rfl
        refine step_store6 (by rfl) 43 (.tmp 5) (.tmp 17) rfl (w.heap.size + 2) rfl _ h2 _ _ hG.y size6U rfl (by simp [Value.oneCell']) ?_
        exact hK _ _ trivial hG.storedY (fun j _ h => YN6_keep j _ h)
    case fin0 =>
      intro L x W hall hG hY
      have hg : Rf6 w _ _ _ _ W := hG
      rw [hall 3 (by decide), if_pos rfl] at hg
      have q0 : W.cell? ⟨w.heap.size + 1, 0, none⟩ = some (.string ⟨s1.bs.toArray⟩) := cell6 hg.q 0
      have q1 : W.cell? ⟨w.heap.size + 1, 1, none⟩ = some (.int .i64 s1.e) := cell6 hg.q 1
      have y0 : W.cell? ⟨w.heap.size + 2, 0, none⟩ = some (.string ⟨#[]⟩) := cell6 hg.y 0
      have y1 : W.cell? ⟨w.heap.size + 2, 1, none⟩ = some (.string ⟨#[]⟩) := cell6 hg.y 1
      have y2 : W.cell? ⟨w.heap.size + 2, 2, none⟩ = some (.string ⟨#[]⟩) := cell6 hg.y 2
      have y3 : W.cell? ⟨w.heap.size + 2, 3, none⟩ = some (.bool false) := cell6 hg.y 3
      have y4 : W.cell? ⟨w.heap.size + 2, 4, none⟩ = some (.slice none 0 0) := cell6 hg.y 4
      have hfin := HP0.out W hg.t
      clear hY hG hg hall
      go_wp2
      refine bodyPost_ret (v := .tuple #[.agg #[.string ⟨s1.bs.toArray⟩, .int .i64 s1.e], .agg #[.string ⟨#[]⟩, .string ⟨#[]⟩, .string ⟨#[]⟩, .bool false, .slice none 0 0]]) ?_ rfl hfin
      simp [results, Tryz.results57, go_sem, q0, q1, y0, y1, y2, y3, y4]
  · have hld : decide (s < 1) = false := decide_eq_false hlt
    have hgd : decide (s > 2) = true := decide_eq_true hgt
    go_enter Tryz.func57, Tryz.ntmps57
    go_wp2_with fail
    generalize (((w.alloc (.cells #[.string ⟨st.bs.toArray⟩, .int .i64 st.e] 68)).alloc (.cells #[.string ⟨#[]⟩, .int .i64 0] 68)).alloc (.cells #[.string ⟨#[]⟩, .string ⟨#[]⟩, .string ⟨#[]⟩, .bool false, .slice none 0 0] 43)).alloc (.cells #[.string ⟨#[]⟩, .string ⟨#[]⟩, .string ⟨#[]⟩, .bool false, .slice none 0 0] 43) = W0 at *
    refine wp_region_st2 (by kernel_rfl) (YN6 (.agg #[.string ⟨st.bs.toArray⟩, .int .i64 st.e]) (.agg #[.string ⟨s1.bs.toArray⟩, .int .i64 s1.e]) (.agg #[.string ⟨#[]⟩, .string ⟨#[]⟩, .string ⟨#[]⟩, .bool false, .slice none 0 0])) (GN6 w #[.string ⟨st.bs.toArray⟩, .int .i64 st.e] #[.string ⟨#[]⟩, .int .i64 0] #[.string ⟨s1.bs.toArray⟩, .int .i64 s1.e] #[.string ⟨#[]⟩, .string ⟨#[]⟩, .string ⟨#[]⟩, .bool false, .slice none 0 0]) ?F1 ?hF1 (by kernel_rfl) (by kernel_rfl) (HG0.out.still ((Turns.refl _ _).drew)) ?step1 ?fin1
    case hF1 =>
      intro x
      simp only [List.map_cons, List.map_nil, putL, Act.put, List.setIfInBounds_toArray, List.set_cons_zero, List.set_cons_succ, Nat.zero_add, Nat.reduceAdd]
      exact rfl
    case step1 =>
      refine ⟨?_, ?_, ?_, ?_, ?_, trivial⟩
      all_goals intro L x W hL hd hG hdep K hK
      · have r0 : W.cell? ⟨w.heap.size, 0, none⟩ = some (.string ⟨st.bs.toArray⟩) := cell6 hG.r 0
        have r1 : W.cell? ⟨w.heap.size, 1, none⟩ = some (.int .i64 st.e) := cell6 hG.r 1
        clear hdep
        go_simp
        exact hK _ _ rfl (hG.quiet 0 (by omega) (Below.refl _ _)) (fun _ _ h => h)
      · have h0 : x 0 = _ := hdep 0 rfl
        clear hdep
        simp only [h0] at hK
        go_simp
        refine (HFL.out W).mono ?_
        rintro e W' ⟨rfl, ht⟩
        exact hK _ _ rfl (hG.quiet 1 (by omega) (ht.below (fun _ f => f.elim))) (fun j _ h => YN6_keep j _ h)
      · have k0 : W.cell? ⟨w.heap.size + 3, 0, none⟩ = some (.string ⟨#[]⟩) := cell6 hG.z 0
        have k1 : W.cell? ⟨w.heap.size + 3, 1, none⟩ = some (.string ⟨#[]⟩) := cell6 hG.z 1
        have k2 : W.cell? ⟨w.heap.size + 3, 2, none⟩ = some (.string ⟨#[]⟩) := cell6 hG.z 2
        have k3 : W.cell? ⟨w.heap.size + 3, 3, none⟩ = some (.bool false) := cell6 hG.z 3
        have k4 : W.cell? ⟨w.heap.size + 3, 4, none⟩ = some (.slice none 0 0) := cell6 hG.z 4
        clear hdep
        go_simp
        exact hK _ _ rfl (hG.quiet 2 (by omega) (Below.refl _ _)) (fun _ _ h => h)
      · have h1 : x 1 = .agg #[.string ⟨s1.bs.toArray⟩, .int .i64 s1.e] := hdep 1 rfl
        refine step_store6 (by rfl) 68 (.tmp 4) (.tmp 16) rfl (w.heap.size + 1) rfl _ h1 _ _ hG.q size6R (ite_block rfl rfl) (by simp [Value.oneCell']) ?_
        exact hK _ _ trivial hG.storedQ (fun j _ h => YN6_keep j _ h)
      · have h2 : x 2 = .agg #[.string ⟨#[]⟩, .string ⟨#[]⟩, .string ⟨#[]⟩, .bool false, .slice none 0 0] := hdep 2 rfl
        refine step_store6 (by rfl) 43 (.tmp 5) (.tmp 17) rfl (w.heap.size + 2) rfl _ h2 _ _ hG.y size6U rfl (by simp [Value.oneCell']) ?_
        exact hK _ _ trivial hG.storedY (fun j _ h => YN6_keep j _ h)
    case fin1 =>
      intro L x W hall hG hY
      have hg : Rf6 w _ _ _ _ W := hG
      rw [hall 3 (by decide), if_pos rfl] at hg
      have q0 : W.cell? ⟨w.heap.size + 1, 0, none⟩ = some (.string ⟨s1.bs.toArray⟩) := cell6 hg.q 0
      have q1 : W.cell? ⟨w.heap.size + 1, 1, none⟩ = some (.int .i64 s1.e) := cell6 hg.q 1
      have y0 : W.cell? ⟨w.heap.size + 2, 0, none⟩ = some (.string ⟨#[]⟩) := cell6 hg.y 0
      have y1 : W.cell? ⟨w.heap.size + 2, 1, none⟩ = some (.string ⟨#[]⟩) := cell6 hg.y 1
      have y2 : W.cell? ⟨w.heap.size + 2, 2, none⟩ = some (.string ⟨#[]⟩) := cell6 hg.y 2
      have y3 : W.cell? ⟨w.heap.size + 2, 3, none⟩ = some (.bool false) := cell6 hg.y 3
      have y4 : W.cell? ⟨w.heap.size + 2, 4, none⟩ = some (.slice none 0 0) := cell6 hg.y 4
      have hfin := HP0.out W hg.t
      clear hY hG hg hall
      go_wp2
      refine bodyPost_ret (v := .tuple #[.agg #[.string ⟨s1.bs.toArray⟩, .int .i64 s1.e], .agg #[.string ⟨#[]⟩, .string ⟨#[]⟩, .string ⟨#[]⟩, .bool false, .slice none 0 0]]) ?_ rfl hfin
      simp [results, Tryz.results57, go_sem, q0, q1, y0, y1, y2, y3, y4]

set_option maxRecDepth 100000 in
set_option maxHeartbeats 8000000 in
theorem rget61_one (st : St) (w : World) (nm hs : List UInt8) (s1 s2 s3 : St) (h1 : textS st 65535 = (s1, nm)) (h2 : textS s1 65535 = (s2, hs)) (h3 : failS s2 (chk6 1 (one6 nm hs)) = s3) (o0 : Ok st) (l0 : st.bs.length ≤ 1000) (o1 : Ok s1) (l1 : s1.bs.length ≤ 1000) (hn : nm.length ≤ 1000) (hh : hs.length ≤ 1000) :
    Calls Tryz.prog 57 #[refV st, .int .i64 1] w (RGot61 w s3 (one6 nm hs)) := by
  have HT1 : Hid (∀ W, Calls Tryz.prog 87 #[.agg #[.string ⟨st.bs.toArray⟩, .int .i64 st.e], .int .i64 65535] W fun e w' => e = .returned (.tuple #[.agg #[.string ⟨s1.bs.toArray⟩, .int .i64 s1.e], .string (mk6 nm)]) ∧ Turns (fun _ => False) W w') := fun W => by
    have := gettext_calls st 65535 W o0 (by omega)
    rw [h1] at this
    exact this
  have HT2 : Hid (∀ W, Calls Tryz.prog 87 #[.agg #[.string ⟨s1.bs.toArray⟩, .int .i64 s1.e], .int .i64 65535] W fun e w' => e = .returned (.tuple #[.agg #[.string ⟨s2.bs.toArray⟩, .int .i64 s2.e], .string (mk6 hs)]) ∧ Turns (fun _ => False) W w') := fun W => by
    have := gettext_calls s1 65535 W o1 (by omega)
    rw [h2] at this
    exact this
  have HCK : Hid (∀ W, Calls Tryz.prog 39 #[.int .i64 1, .agg #[.string (mk6 nm), .string (mk6 hs), .string ⟨#[]⟩, .bool false, .slice none 0 0]] W (Errs5 (chk6 1 (one6 nm hs)) W)) := fun W => by
    have z1 : (mk6 nm).size ≤ 1000 := by show nm.toArray.size ≤ _; rw [List.size_toArray]; omega
    have z2 : (mk6 hs).size ≤ 1000 := by show hs.toArray.size ≤ _; rw [List.size_toArray]; omega
    exact rcheck6_calls 1 (one6 nm hs) W ⟨fun e => absurd rfl e, Nat.le_trans z1 (by omega), Nat.le_trans z2 (by omega), Nat.zero_le _, fun _ => rfl, Nat.zero_le _, Nat.zero_le _, fun s hs => by cases hs⟩ z1 z2 (Nat.zero_le _) (fun g hg => by cases hg)
  have HFL : Hid (∀ W, Calls Tryz.prog 56 #[.agg #[.string ⟨s2.bs.toArray⟩, .int .i64 s2.e], .int .i64 (chk6 1 (one6 nm hs))] W fun e w' => e = .returned (.agg #[.string ⟨s3.bs.toArray⟩, .int .i64 s3.e]) ∧ Turns (fun _ => False) W w') := fun W => by
    have := reffail_calls s2 (chk6 1 (one6 nm hs)) W
    rw [h3] at this
    exact this
  have HU : Hid ((one6 nm hs).v = .agg #[.string (mk6 nm), .string (mk6 hs), .string ⟨#[]⟩, .bool false, .slice none 0 0]) := rfl
  generalize chk6 1 (one6 nm hs) = ck at *
  clear h1 h2 h3 o0 l0 o1 l1 hn hh
  obtain ⟨u, hu⟩ : ∃ u, u = one6 nm hs := ⟨_, rfl⟩
  rw [← hu] at HU ⊢
  clear hu
  unfold refV
  unfold mk6 at *
  generalize (⟨nm.toArray⟩ : ByteArray) = x1 at *
  generalize (⟨hs.toArray⟩ : ByteArray) = x2 at *
  have HG0 := Lib.hid ((Rf6.start w (.string ⟨st.bs.toArray⟩) (.int .i64 st.e)).user (by simp) #[.string ⟨#[]⟩, .string ⟨#[]⟩, .string ⟨#[]⟩, .bool false, .slice none 0 0])
  have r0 : _ = some (.string ⟨st.bs.toArray⟩ : Value) := cell6 HG0.out.r 0
  have r1 : _ = some (.int .i64 st.e : Value) := cell6 HG0.out.r 1
  go_enter Tryz.func57, Tryz.ntmps57
  go_wp2_with fail
  generalize ((((w.alloc (.cells #[.string ⟨st.bs.toArray⟩, .int .i64 st.e] 68)).alloc (.cells #[.string ⟨#[]⟩, .int .i64 0] 68)).alloc (.cells #[.string ⟨#[]⟩, .string ⟨#[]⟩, .string ⟨#[]⟩, .bool false, .slice none 0 0] 43)).alloc (.cells #[.string ⟨#[]⟩, .string ⟨#[]⟩, .string ⟨#[]⟩, .bool false, .slice none 0 0] 43)).alloc (.cells #[.string ⟨#[]⟩, .string ⟨#[]⟩, .string ⟨#[]⟩, .bool false, .slice none 0 0] 43) = W0 at *
  with_reducible refine (HT1.out W0).mono ?_
  rintro e w1 ⟨rfl, ht⟩
  have hg := HG0.out.still ht
  clear r0 r1
  have p0 : _ = some (.string ⟨st.bs.toArray⟩ : Value) := cell6 hg.r 0
  have p1 : _ = some (.int .i64 st.e : Value) := cell6 hg.r 1
  have pf := free6 hg.r
  have kk : _ = some (.string ⟨#[]⟩ : Value) := cell6 (hg.v _ rfl) 0
  have kf := free6 (hg.v _ rfl)
  have hg2 := hg.read (a' := .string ⟨s1.bs.toArray⟩) (b' := .int .i64 s1.e) (j := 0) (x := .string x1) (xs' := #[.string x1, .string ⟨#[]⟩, .string ⟨#[]⟩, .bool false, .slice none 0 0]) rfl
  have HG1 := Lib.hid hg2
  have r0 : _ = some (.string ⟨s1.bs.toArray⟩ : Value) := cell6 hg2.r 0
  have r1 : _ = some (.int .i64 s1.e : Value) := cell6 hg2.r 1
  clear hg hg2 ht HG0 HT1
  go_wp2_with fail
  generalize ((w1.setCell ⟨w.heap.size, 0, none⟩ (.string ⟨s1.bs.toArray⟩)).setCell ⟨w.heap.size, 1, none⟩ (.int .i64 s1.e)).setCell ⟨w.heap.size + 4, 0, none⟩ (.string x1) = W1 at *
  clear p0 p1 pf kk kf
  with_reducible refine (HT2.out W1).mono ?_
  rintro e w2 ⟨rfl, ht⟩
  have hg := HG1.out.still ht
  clear r0 r1
  have p0 : _ = some (.string ⟨s1.bs.toArray⟩ : Value) := cell6 hg.r 0
  have p1 : _ = some (.int .i64 s1.e : Value) := cell6 hg.r 1
  have pf := free6 hg.r
  have kk : _ = some (.string ⟨#[]⟩ : Value) := cell6 (hg.v _ rfl) 1
  have kf := free6 (hg.v _ rfl)
  have hg2 := hg.read (a' := .string ⟨s2.bs.toArray⟩) (b' := .int .i64 s2.e) (j := 1) (x := .string x2) (xs' := #[.string x1, .string x2, .string ⟨#[]⟩, .bool false, .slice none 0 0]) rfl
  have HG2 := Lib.hid hg2
  have r0 : _ = some (.string ⟨s2.bs.toArray⟩ : Value) := cell6 hg2.r 0
  have r1 : _ = some (.int .i64 s2.e : Value) := cell6 hg2.r 1
  clear hg hg2 ht HG1 HT2
  go_wp2_with fail
  generalize ((w2.setCell ⟨w.heap.size, 0, none⟩ (.string ⟨s2.bs.toArray⟩)).setCell ⟨w.heap.size, 1, none⟩ (.int .i64 s2.e)).setCell ⟨w.heap.size + 4, 1, none⟩ (.string x2) = W2 at *
  clear p0 p1 pf kk kf
  clear r0 r1
  refine wp_region_st2 (by kernel_rfl) (YC6 1 (.agg #[.string ⟨s2.bs.toArray⟩, .int .i64 s2.e]) (.agg #[.string x1, .string x2, .string ⟨#[]⟩, .bool false, .slice none 0 0]) ck (.agg #[.string ⟨s3.bs.toArray⟩, .int .i64 s3.e])) (GC6 w #[.string ⟨s2.bs.toArray⟩, .int .i64 s2.e] #[.string ⟨s3.bs.toArray⟩, .int .i64 s3.e] #[.string ⟨#[]⟩, .int .i64 0] #[.string ⟨#[]⟩, .string ⟨#[]⟩, .string ⟨#[]⟩, .bool false, .slice none 0 0] (some #[.string x1, .string x2, .string ⟨#[]⟩, .bool false, .slice none 0 0]) none [] 0) ?F ?hF (by kernel_rfl) (by kernel_rfl) ⟨HG2.out.still ((Turns.refl _ _).drew), (Own6.none w W2).below (below_drew (Below.refl _ _)), fun h => by cases h⟩ ?step ?fin
  case hF =>
    intro x
    simp only [List.map_cons, List.map_nil, putL, Act.put, List.setIfInBounds_toArray, List.set_cons_zero, List.set_cons_succ, Nat.zero_add, Nat.reduceAdd]
    exact rfl
  case step =>
    refine ⟨?_, ?_, ?_, ?_, ?_, ?_, trivial⟩
    all_goals intro L x W hL hd hG hdep K hK
    · have hg := hG.ahead 0 (by omega) hL
      have r0 : W.cell? ⟨w.heap.size, 0, none⟩ = some (.string ⟨s2.bs.toArray⟩) := cell6 hg.r 0
      have r1 : W.cell? ⟨w.heap.size, 1, none⟩ = some (.int .i64 s2.e) := cell6 hg.r 1
      clear hdep hg
      go_simp
      exact hK _ _ rfl (hG.quiet 0 (by omega) hL (Below.refl _ _)) (fun _ _ h => h)
    · clear hdep
      go_simp
      exact hK _ _ rfl (hG.quiet 1 (by omega) hL (Below.refl _ _)) (fun _ _ h => h)
    · have hg := hG.ahead 2 (by omega) hL
      have k0 : W.cell? ⟨w.heap.size + 4, 0, none⟩ = some (.string x1) := cell6 (hg.v _ rfl) 0
      have k1 : W.cell? ⟨w.heap.size + 4, 1, none⟩ = some (.string x2) := cell6 (hg.v _ rfl) 1
      have k2 : W.cell? ⟨w.heap.size + 4, 2, none⟩ = some (.string ⟨#[]⟩) := cell6 (hg.v _ rfl) 2
      have k3 : W.cell? ⟨w.heap.size + 4, 3, none⟩ = some (.bool false) := cell6 (hg.v _ rfl) 3
      have k4 : W.cell? ⟨w.heap.size + 4, 4, none⟩ = some (.slice none 0 0) := cell6 (hg.v _ rfl) 4
      clear hdep hg
      go_simp
      exact hK _ _ rfl (hG.quiet 2 (by omega) hL (Below.refl _ _)) (fun _ _ h => h)
    · have h1 : x 1 = _ := hdep 1 rfl
      have h2 : x 2 = _ := hdep 2 rfl
      clear hdep
      simp only [h1, h2] at hK
      go_simp
      refine (HCK.out W).mono ?_
      rintro e W' ⟨rfl, hb⟩
      exact hK _ _ rfl (hG.quiet 3 (by omega) hL hb) (fun j _ h => YC6_keep j _ h)
    · have h0 : x 0 = _ := hdep 0 rfl
      have h3 : x 3 = _ := hdep 3 rfl
      clear hdep
      simp only [h0, h3] at hK
      go_simp
      refine (HFL.out W).mono ?_
      rintro e W' ⟨rfl, ht⟩
      exact hK _ _ rfl (hG.quiet 4 (by omega) hL (ht.below (fun _ f => f.elim))) (fun j _ h => YC6_keep j _ h)
    · have h4 : x 4 = .agg #[.string ⟨s3.bs.toArray⟩, .int .i64 s3.e] := hdep 4 rfl
      have hd0 : ∀ j, j < 5 → L j = true := fun j hj => hd j (by rcases j with _ | _ | _ | _ | _ | j <;> first | rfl | omega)
      refine step_store6 (by rfl) 68 (.tmp 2) (.tmp 55) rfl w.heap.size rfl _ h4 _ _ hG.1.r size6R (ite_block rfl rfl) (by simp [Value.oneCell']) ?_
      exact hK _ _ trivial (hG.stored hd0) (fun j _ h => YC6_keep j _ h)
  case fin =>
    intro L x W8 hall hG hY
    have hg := hG.1
    rw [hall 5 (by decide), if_pos rfl] at hg
    have HG8 := Lib.hid hg
    have HO8 := Lib.hid hG.2.1
    have r1 : _ = some (.int .i64 s3.e : Value) := cell6 hg.r 1
    clear hY hG hg hall HCK HFL HG2
    by_cases h0 : s3.e = 0
    · have h0d : (s3.e != 0) = false := by simpa using h0
      have HP1 : Hid (∀ W, Own6 w none [] 0 W → Turns (fun _ => False) w W → RGot61 w s3 u (.returned (.tuple #[.agg #[.string ⟨s3.bs.toArray⟩, .int .i64 s3.e], .agg #[.string x1, .string x2, .string ⟨#[]⟩, .bool false, .slice none 0 0]])) W) := fun W ho ht => by
        exact ⟨by rw [if_pos h0, HU.out]; rfl, ht⟩
      clear HU
      go_wp2_with fail
      clear r1 h0 h0d
      refine wp_region_st2 (by kernel_rfl) (YL6 (.agg #[.string ⟨s3.bs.toArray⟩, .int .i64 s3.e]) (.agg #[.string x1, .string x2, .string ⟨#[]⟩, .bool false, .slice none 0 0])) (GL6 w #[.string ⟨s3.bs.toArray⟩, .int .i64 s3.e] #[.string ⟨#[]⟩, .int .i64 0] #[.string ⟨s3.bs.toArray⟩, .int .i64 s3.e] #[.string ⟨#[]⟩, .string ⟨#[]⟩, .string ⟨#[]⟩, .bool false, .slice none 0 0] #[.string x1, .string x2, .string ⟨#[]⟩, .bool false, .slice none 0 0] (some #[.string x1, .string x2, .string ⟨#[]⟩, .bool false, .slice none 0 0]) none [] 0) ?F1 ?hF1 (by kernel_rfl) (by kernel_rfl) ⟨HG8.out.still ((Turns.refl _ _).drew), HO8.out.below (below_drew (Below.refl _ _))⟩ ?step1 ?fin1
      case hF1 =>
        intro x
        simp only [List.map_cons, List.map_nil, putL, Act.put, List.setIfInBounds_toArray, List.set_cons_zero, List.set_cons_succ, Nat.zero_add]
        exact rfl
      case step1 =>
        refine ⟨?_, ?_, ?_, ?_, trivial⟩
        all_goals intro L x W hL hd hG hdep K hK
        · have hg := hG.1
          have r0 : W.cell? ⟨w.heap.size, 0, none⟩ = some (.string ⟨s3.bs.toArray⟩) := cell6 hg.r 0
          have r1 : W.cell? ⟨w.heap.size, 1, none⟩ = some (.int .i64 s3.e) := cell6 hg.r 1
          clear hdep hg
          go_simp
          exact hK _ _ rfl (hG.quiet 0 (by omega)) (fun _ _ h => h)
        · have hg := hG.1
          have k0 : W.cell? ⟨w.heap.size + 4, 0, none⟩ = some (.string x1) := cell6 (hg.v _ rfl) 0
          have k1 : W.cell? ⟨w.heap.size + 4, 1, none⟩ = some (.string x2) := cell6 (hg.v _ rfl) 1
          have k2 : W.cell? ⟨w.heap.size + 4, 2, none⟩ = some (.string ⟨#[]⟩) := cell6 (hg.v _ rfl) 2
          have k3 : W.cell? ⟨w.heap.size + 4, 3, none⟩ = some (.bool false) := cell6 (hg.v _ rfl) 3
          have k4 : W.cell? ⟨w.heap.size + 4, 4, none⟩ = some (.slice none 0 0) := cell6 (hg.v _ rfl) 4
          clear hdep hg
          go_simp
          exact hK _ _ rfl (hG.quiet 1 (by omega)) (fun _ _ h => h)
        · have h0 : x 0 = .agg #[.string ⟨s3.bs.toArray⟩, .int .i64 s3.e] := hdep 0 rfl
          refine step_store6 (by rfl) 68 (.tmp 4) (.tmp 61) rfl (w.heap.size + 1) rfl _ h0 _ _ hG.1.q size6R (ite_block rfl rfl) (by simp [Value.oneCell']) ?_
          exact hK _ _ trivial hG.storedQ (fun j _ h => YL6_keep j _ h)
        · have h1 : x 1 = .agg #[.string x1, .string x2, .string ⟨#[]⟩, .bool false, .slice none 0 0] := hdep 1 rfl
          refine step_store6 (by rfl) 43 (.tmp 5) (.tmp 62) rfl (w.heap.size + 2) rfl _ h1 _ _ hG.1.y size6U (ite_block rfl rfl) (by simp [Value.oneCell']) ?_
          exact hK _ _ trivial hG.storedY (fun j _ h => YL6_keep j _ h)
      case fin1 =>
        intro L x W hall hG hY
        have hg := hG.1
        rw [hall 2 (by decide), hall 3 (by decide), if_pos rfl, if_pos rfl] at hg
        have q0 : W.cell? ⟨w.heap.size + 1, 0, none⟩ = some (.string ⟨s3.bs.toArray⟩) := cell6 hg.q 0
        have q1 : W.cell? ⟨w.heap.size + 1, 1, none⟩ = some (.int .i64 s3.e) := cell6 hg.q 1
        have y0 : W.cell? ⟨w.heap.size + 2, 0, none⟩ = some (.string x1) := cell6 hg.y 0
        have y1 : W.cell? ⟨w.heap.size + 2, 1, none⟩ = some (.string x2) := cell6 hg.y 1
        have y2 : W.cell? ⟨w.heap.size + 2, 2, none⟩ = some (.string ⟨#[]⟩) := cell6 hg.y 2
        have y3 : W.cell? ⟨w.heap.size + 2, 3, none⟩ = some (.bool false) := cell6 hg.y 3
        have y4 : W.cell? ⟨w.heap.size + 2, 4, none⟩ = some (.slice none 0 0) := cell6 hg.y 4
        have hfin := HP1.out W hG.2 hg.t
        clear hY hG hg hall
        go_wp2
        refine bodyPost_ret (v := .tuple #[.agg #[.string ⟨s3.bs.toArray⟩, .int .i64 s3.e], .agg #[.string x1, .string x2, .string ⟨#[]⟩, .bool false, .slice none 0 0]]) ?_ rfl hfin
        simp [results, Tryz.results57, go_sem, q0, q1, y0, y1, y2, y3, y4]
    · have h0d : (s3.e != 0) = true := by simpa using h0
      have HP2 : Hid (∀ W, Own6 w none [] 0 W → Turns (fun _ => False) w W → RGot61 w s3 u (.returned (.tuple #[.agg #[.string ⟨s3.bs.toArray⟩, .int .i64 s3.e], .agg #[.string ⟨#[]⟩, .string ⟨#[]⟩, .string ⟨#[]⟩, .bool false, .slice none 0 0]])) W) := fun W ho ht => by
        exact ⟨by rw [if_neg h0]; rfl, ht⟩
      clear HU
      go_wp2_with fail
      clear r1 h0 h0d
      refine wp_region_st2 (by kernel_rfl) (YL6 (.agg #[.string ⟨s3.bs.toArray⟩, .int .i64 s3.e]) (.agg #[.string ⟨#[]⟩, .string ⟨#[]⟩, .string ⟨#[]⟩, .bool false, .slice none 0 0])) (GL6 w #[.string ⟨s3.bs.toArray⟩, .int .i64 s3.e] #[.string ⟨#[]⟩, .int .i64 0] #[.string ⟨s3.bs.toArray⟩, .int .i64 s3.e] #[.string ⟨#[]⟩, .string ⟨#[]⟩, .string ⟨#[]⟩, .bool false, .slice none 0 0] #[.string ⟨#[]⟩, .string ⟨#[]⟩, .string ⟨#[]⟩, .bool false, .slice none 0 0] (some #[.string x1, .string x2, .string ⟨#[]⟩, .bool false, .slice none 0 0]) none [] 0) ?F2 ?hF2 (by kernel_rfl) (by kernel_rfl) ⟨HG8.out.still ((Turns.refl _ _).drew), HO8.out.below (below_drew (Below.refl _ _))⟩ ?step2 ?fin2
      case hF2 =>
        intro x
        simp only [List.map_cons, List.map_nil, putL, Act.put, List.setIfInBounds_toArray, List.set_cons_zero, List.set_cons_succ, Nat.zero_add]
        exact rfl
      case step2 =>
        refine ⟨?_, ?_, ?_, ?_, trivial⟩
        all_goals intro L x W hL hd hG hdep K hK
        · have hg := hG.1
          have r0 : W.cell? ⟨w.heap.size, 0, none⟩ = some (.string ⟨s3.bs.toArray⟩) := cell6 hg.r 0
          have r1 : W.cell? ⟨w.heap.size, 1, none⟩ = some (.int .i64 s3.e) := cell6 hg.r 1
          clear hdep hg
          go_simp
          exact hK _ _ rfl (hG.quiet 0 (by omega)) (fun _ _ h => h)
        · have hg := hG.1
          have k0 : W.cell? ⟨w.heap.size + 3, 0, none⟩ = some (.string ⟨#[]⟩) := cell6 hg.z 0
          have k1 : W.cell? ⟨w.heap.size + 3, 1, none⟩ = some (.string ⟨#[]⟩) := cell6 hg.z 1
          have k2 : W.cell? ⟨w.heap.size + 3, 2, none⟩ = some (.string ⟨#[]⟩) := cell6 hg.z 2
          have k3 : W.cell? ⟨w.heap.size + 3, 3, none⟩ = some (.bool false) := cell6 hg.z 3
          have k4 : W.cell? ⟨w.heap.size + 3, 4, none⟩ = some (.slice none 0 0) := cell6 hg.z 4
          clear hdep hg
          go_simp
          exact hK _ _ rfl (hG.quiet 1 (by omega)) (fun _ _ h => h)
        · have h0 : x 0 = .agg #[.string ⟨s3.bs.toArray⟩, .int .i64 s3.e] := hdep 0 rfl
          refine step_store6 (by rfl) 68 (.tmp 4) (.tmp 59) rfl (w.heap.size + 1) rfl _ h0 _ _ hG.1.q size6R (ite_block rfl rfl) (by simp [Value.oneCell']) ?_
          exact hK _ _ trivial hG.storedQ (fun j _ h => YL6_keep j _ h)
        · have h1 : x 1 = .agg #[.string ⟨#[]⟩, .string ⟨#[]⟩, .string ⟨#[]⟩, .bool false, .slice none 0 0] := hdep 1 rfl
          refine step_store6 (by rfl) 43 (.tmp 5) (.tmp 60) rfl (w.heap.size + 2) rfl _ h1 _ _ hG.1.y size6U (ite_block rfl rfl) (by simp [Value.oneCell']) ?_
          exact hK _ _ trivial hG.storedY (fun j _ h => YL6_keep j _ h)
      case fin2 =>
        intro L x W hall hG hY
        have hg := hG.1
        rw [hall 2 (by decide), hall 3 (by decide), if_pos rfl, if_pos rfl] at hg
        have q0 : W.cell? ⟨w.heap.size + 1, 0, none⟩ = some (.string ⟨s3.bs.toArray⟩) := cell6 hg.q 0
        have q1 : W.cell? ⟨w.heap.size + 1, 1, none⟩ = some (.int .i64 s3.e) := cell6 hg.q 1
        have y0 : W.cell? ⟨w.heap.size + 2, 0, none⟩ = some (.string ⟨#[]⟩) := cell6 hg.y 0
        have y1 : W.cell? ⟨w.heap.size + 2, 1, none⟩ = some (.string ⟨#[]⟩) := cell6 hg.y 1
        have y2 : W.cell? ⟨w.heap.size + 2, 2, none⟩ = some (.string ⟨#[]⟩) := cell6 hg.y 2
        have y3 : W.cell? ⟨w.heap.size + 2, 3, none⟩ = some (.bool false) := cell6 hg.y 3
        have y4 : W.cell? ⟨w.heap.size + 2, 4, none⟩ = some (.slice none 0 0) := cell6 hg.y 4
        have hfin := HP2.out W hG.2 hg.t
        clear hY hG hg hall
        go_wp2
        refine bodyPost_ret (v := .tuple #[.agg #[.string ⟨s3.bs.toArray⟩, .int .i64 s3.e], .agg #[.string ⟨#[]⟩, .string ⟨#[]⟩, .string ⟨#[]⟩, .bool false, .slice none 0 0]]) ?_ rfl hfin
        simp [results, Tryz.results57, go_sem, q0, q1, y0, y1, y2, y3, y4]
theorem rget6_one (st : St) (w : World) (nm hs : List UInt8) (s1 s2 s3 : St) (h1 : textS st 65535 = (s1, nm)) (h2 : textS s1 65535 = (s2, hs)) (h3 : failS s2 (chk6 1 (one6 nm hs)) = s3) (o0 : Ok st) (l0 : st.bs.length ≤ 1000) (o1 : Ok s1) (l1 : s1.bs.length ≤ 1000) (hn : nm.length ≤ 1000) (hh : hs.length ≤ 1000) :
    Calls Tryz.prog 57 #[refV st, .int .i64 1] w (RGot6 w s3 (one6 nm hs)) :=
  (rget61_one st w nm hs s1 s2 s3 h1 h2 h3 o0 l0 o1 l1 hn hh).mono fun e w' ⟨he, ht⟩ => ⟨none, 0, he, World.ownsRow_nil _ _ _ _, by simp [Value.ownBlock], ht⟩

set_option maxRecDepth 100000 in
set_option maxHeartbeats 8000000 in
theorem rget6_two (st : St) (w : World) (nm hs ml : List UInt8) (dis : Bool) (gs : List ByteArray) (s1 s2 s3 s4 s5 s6 : St) (h1 : textS st 65535 = (s1, nm)) (h2 : textS s1 65535 = (s2, hs)) (h3 : textS s2 65535 = (s3, ml)) (h4 : truthS s3 = (s4, dis)) (h5 : rowS s4 65535 65535 = (s5, gs)) (h6 : failS s5 (chk6 2 (two6 nm hs ml dis gs)) = s6) (o0 : Ok st) (l0 : st.bs.length ≤ 1000) (o1 : Ok s1) (l1 : s1.bs.length ≤ 1000) (o2 : Ok s2) (l2 : s2.bs.length ≤ 1000) (o3 : Ok s3) (l3 : s3.bs.length ≤ 1000) (o4 : Ok s4) (l4 : s4.bs.length ≤ 1000) (hn : nm.length ≤ 1000) (hh : hs.length ≤ 1000) (hml : ml.length ≤ 1000) (hgs : ∀ s ∈ gs, s.size ≤ 1000) :
    Calls Tryz.prog 57 #[refV st, .int .i64 2] w (RGot6 w s6 (two6 nm hs ml dis gs)) := by
  have HT1 : Hid (∀ W, Calls Tryz.prog 87 #[.agg #[.string ⟨st.bs.toArray⟩, .int .i64 st.e], .int .i64 65535] W fun e w' => e = .returned (.tuple #[.agg #[.string ⟨s1.bs.toArray⟩, .int .i64 s1.e], .string (mk6 nm)]) ∧ Turns (fun _ => False) W w') := fun W => by
    have := gettext_calls st 65535 W o0 (by omega)
    rw [h1] at this
    exact this
  have HT2 : Hid (∀ W, Calls Tryz.prog 87 #[.agg #[.string ⟨s1.bs.toArray⟩, .int .i64 s1.e], .int .i64 65535] W fun e w' => e = .returned (.tuple #[.agg #[.string ⟨s2.bs.toArray⟩, .int .i64 s2.e], .string (mk6 hs)]) ∧ Turns (fun _ => False) W w') := fun W => by
    have := gettext_calls s1 65535 W o1 (by omega)
    rw [h2] at this
    exact this
  have HT3 : Hid (∀ W, Calls Tryz.prog 87 #[.agg #[.string ⟨s2.bs.toArray⟩, .int .i64 s2.e], .int .i64 65535] W fun e w' => e = .returned (.tuple #[.agg #[.string ⟨s3.bs.toArray⟩, .int .i64 s3.e], .string (mk6 ml)]) ∧ Turns (fun _ => False) W w') := fun W => by
    have := gettext_calls s2 65535 W o2 (by omega)
    rw [h3] at this
    exact this
  have HT4 : Hid (∀ W, Calls Tryz.prog 88 #[.agg #[.string ⟨s3.bs.toArray⟩, .int .i64 s3.e]] W fun e w' => e = .returned (.tuple #[.agg #[.string ⟨s4.bs.toArray⟩, .int .i64 s4.e], .bool dis]) ∧ Turns (fun _ => False) W w') := fun W => by
    have := gettruth_calls s3 W o3 (by omega)
    rw [h4] at this
    exact this
  have HT5 : Hid (∀ W, Calls Tryz.prog 89 #[.agg #[.string ⟨s4.bs.toArray⟩, .int .i64 s4.e], .int .i64 65535, .int .i64 65535] W (RefW6 s5 gs W)) := fun W => by
    have := getrow6_calls s4 65535 65535 W o4 (by omega)
    rw [h5] at this
    exact this
  have HCK : Hid (∀ W A c, Own6 w A gs c W → Calls Tryz.prog 39 #[.int .i64 2, .agg #[.string (mk6 nm), .string (mk6 hs), .string (mk6 ml), .bool dis, .slice A gs.length c]] W (Errs5 (chk6 2 (two6 nm hs ml dis gs)) W)) := fun W A c ho => by
    obtain ⟨f1, f2, f3, f4⟩ := owns_facts6 ho.1 rfl
    have z1 : (mk6 nm).size ≤ 1000 := by show nm.toArray.size ≤ _; rw [List.size_toArray]; omega
    have z2 : (mk6 hs).size ≤ 1000 := by show hs.toArray.size ≤ _; rw [List.size_toArray]; omega
    have z3 : (mk6 ml).size ≤ 1000 := by show ml.toArray.size ≤ _; rw [List.size_toArray]; omega
    exact rcheck6_calls 2 ⟨mk6 nm, mk6 hs, mk6 ml, dis, A, gs, c⟩ W ⟨f1, Nat.le_trans z1 (by omega), Nat.le_trans z2 (by omega), Nat.le_trans z3 (by omega), f2, f3, f4, fun s hs => Nat.le_trans (hgs s hs) (by omega)⟩ z1 z2 z3 hgs
  have HFL : Hid (∀ W, Calls Tryz.prog 56 #[.agg #[.string ⟨s5.bs.toArray⟩, .int .i64 s5.e], .int .i64 (chk6 2 (two6 nm hs ml dis gs))] W fun e w' => e = .returned (.agg #[.string ⟨s6.bs.toArray⟩, .int .i64 s6.e]) ∧ Turns (fun _ => False) W w') := fun W => by
    have := reffail_calls s5 (chk6 2 (two6 nm hs ml dis gs)) W
    rw [h6] at this
    exact this
  have HU : Hid (∀ A c, ({ two6 nm hs ml dis gs with ga := A, gc := c } : Us).v = .agg #[.string (mk6 nm), .string (mk6 hs), .string (mk6 ml), .bool dis, .slice A (two6 nm hs ml dis gs).gs.length c]) := fun _ _ => rfl
  have HGS : Hid ((two6 nm hs ml dis gs).gs = gs) := rfl
  generalize chk6 2 (two6 nm hs ml dis gs) = ck at *
  clear h1 h2 h3 h4 h5 h6 o0 l0 o1 l1 o2 l2 o3 l3 o4 l4 hn hh hml hgs
  obtain ⟨u, hu⟩ : ∃ u, u = two6 nm hs ml dis gs := ⟨_, rfl⟩
  rw [← hu] at HU HGS ⊢
  clear hu
  unfold refV
  unfold mk6 at *
  generalize (⟨nm.toArray⟩ : ByteArray) = x1 at *
  generalize (⟨hs.toArray⟩ : ByteArray) = x2 at *
  generalize (⟨ml.toArray⟩ : ByteArray) = x3 at *
  have HG0 := Lib.hid ((Rf6.start w (.string ⟨st.bs.toArray⟩) (.int .i64 st.e)).user (by simp) #[.string ⟨#[]⟩, .string ⟨#[]⟩, .string ⟨#[]⟩, .bool false, .slice none 0 0])
  have r0 : _ = some (.string ⟨st.bs.toArray⟩ : Value) := cell6 HG0.out.r 0
  have r1 : _ = some (.int .i64 st.e : Value) := cell6 HG0.out.r 1
  go_enter Tryz.func57, Tryz.ntmps57
  go_wp2_with fail
  generalize ((((w.alloc (.cells #[.string ⟨st.bs.toArray⟩, .int .i64 st.e] 68)).alloc (.cells #[.string ⟨#[]⟩, .int .i64 0] 68)).alloc (.cells #[.string ⟨#[]⟩, .string ⟨#[]⟩, .string ⟨#[]⟩, .bool false, .slice none 0 0] 43)).alloc (.cells #[.string ⟨#[]⟩, .string ⟨#[]⟩, .string ⟨#[]⟩, .bool false, .slice none 0 0] 43)).alloc (.cells #[.string ⟨#[]⟩, .string ⟨#[]⟩, .string ⟨#[]⟩, .bool false, .slice none 0 0] 43) = W0 at *
  with_reducible refine (HT1.out W0).mono ?_
  rintro e w1 ⟨rfl, ht⟩
  have hg := HG0.out.still ht
  clear r0 r1
  have p0 : _ = some (.string ⟨st.bs.toArray⟩ : Value) := cell6 hg.r 0
  have p1 : _ = some (.int .i64 st.e : Value) := cell6 hg.r 1
  have pf := free6 hg.r
  have kk : _ = some (.string ⟨#[]⟩ : Value) := cell6 (hg.v _ rfl) 0
  have kf := free6 (hg.v _ rfl)
  have hg2 := hg.read (a' := .string ⟨s1.bs.toArray⟩) (b' := .int .i64 s1.e) (j := 0) (x := .string x1) (xs' := #[.string x1, .string ⟨#[]⟩, .string ⟨#[]⟩, .bool false, .slice none 0 0]) rfl
  have HG1 := Lib.hid hg2
  have r0 : _ = some (.string ⟨s1.bs.toArray⟩ : Value) := cell6 hg2.r 0
  have r1 : _ = some (.int .i64 s1.e : Value) := cell6 hg2.r 1
  clear hg hg2 ht HG0 HT1
  go_wp2_with fail
  generalize ((w1.setCell ⟨w.heap.size, 0, none⟩ (.string ⟨s1.bs.toArray⟩)).setCell ⟨w.heap.size, 1, none⟩ (.int .i64 s1.e)).setCell ⟨w.heap.size + 4, 0, none⟩ (.string x1) = W1 at *
  clear p0 p1 pf kk kf
  with_reducible refine (HT2.out W1).mono ?_
  rintro e w2 ⟨rfl, ht⟩
  have hg := HG1.out.still ht
  clear r0 r1
  have p0 : _ = some (.string ⟨s1.bs.toArray⟩ : Value) := cell6 hg.r 0
  have p1 : _ = some (.int .i64 s1.e : Value) := cell6 hg.r 1
  have pf := free6 hg.r
  have kk : _ = some (.string ⟨#[]⟩ : Value) := cell6 (hg.v _ rfl) 1
  have kf := free6 (hg.v _ rfl)
  have hg2 := hg.read (a' := .string ⟨s2.bs.toArray⟩) (b' := .int .i64 s2.e) (j := 1) (x := .string x2) (xs' := #[.string x1, .string x2, .string ⟨#[]⟩, .bool false, .slice none 0 0]) rfl
  have HG2 := Lib.hid hg2
  have r0 : _ = some (.string ⟨s2.bs.toArray⟩ : Value) := cell6 hg2.r 0
  have r1 : _ = some (.int .i64 s2.e : Value) := cell6 hg2.r 1
  clear hg hg2 ht HG1 HT2
  go_wp2_with fail
  generalize ((w2.setCell ⟨w.heap.size, 0, none⟩ (.string ⟨s2.bs.toArray⟩)).setCell ⟨w.heap.size, 1, none⟩ (.int .i64 s2.e)).setCell ⟨w.heap.size + 4, 1, none⟩ (.string x2) = W2 at *
  clear p0 p1 pf kk kf
  with_reducible refine (HT3.out W2).mono ?_
  rintro e w3 ⟨rfl, ht⟩
  have hg := HG2.out.still ht
  clear r0 r1
  have p0 : _ = some (.string ⟨s2.bs.toArray⟩ : Value) := cell6 hg.r 0
  have p1 : _ = some (.int .i64 s2.e : Value) := cell6 hg.r 1
  have pf := free6 hg.r
  have kk : _ = some (.string ⟨#[]⟩ : Value) := cell6 (hg.v _ rfl) 2
  have kf := free6 (hg.v _ rfl)
  have hg2 := hg.read (a' := .string ⟨s3.bs.toArray⟩) (b' := .int .i64 s3.e) (j := 2) (x := .string x3) (xs' := #[.string x1, .string x2, .string x3, .bool false, .slice none 0 0]) rfl
  have HG3 := Lib.hid hg2
  have r0 : _ = some (.string ⟨s3.bs.toArray⟩ : Value) := cell6 hg2.r 0
  have r1 : _ = some (.int .i64 s3.e : Value) := cell6 hg2.r 1
  clear hg hg2 ht HG2 HT3
  go_wp2_with fail
  generalize ((w3.setCell ⟨w.heap.size, 0, none⟩ (.string ⟨s3.bs.toArray⟩)).setCell ⟨w.heap.size, 1, none⟩ (.int .i64 s3.e)).setCell ⟨w.heap.size + 4, 2, none⟩ (.string x3) = W3 at *
  clear p0 p1 pf kk kf
  with_reducible refine (HT4.out W3).mono ?_
  rintro e w4 ⟨rfl, ht⟩
  have hg := HG3.out.still ht
  clear r0 r1
  have p0 : _ = some (.string ⟨s3.bs.toArray⟩ : Value) := cell6 hg.r 0
  have p1 : _ = some (.int .i64 s3.e : Value) := cell6 hg.r 1
  have pf := free6 hg.r
  have kk : _ = some (.bool false : Value) := cell6 (hg.v _ rfl) 3
  have kf := free6 (hg.v _ rfl)
  have hg2 := hg.read (a' := .string ⟨s4.bs.toArray⟩) (b' := .int .i64 s4.e) (j := 3) (x := .bool dis) (xs' := #[.string x1, .string x2, .string x3, .bool dis, .slice none 0 0]) rfl
  have HG4 := Lib.hid hg2
  have r0 : _ = some (.string ⟨s4.bs.toArray⟩ : Value) := cell6 hg2.r 0
  have r1 : _ = some (.int .i64 s4.e : Value) := cell6 hg2.r 1
  clear hg hg2 ht HG3 HT4
  go_wp2_with fail
  generalize ((w4.setCell ⟨w.heap.size, 0, none⟩ (.string ⟨s4.bs.toArray⟩)).setCell ⟨w.heap.size, 1, none⟩ (.int .i64 s4.e)).setCell ⟨w.heap.size + 4, 3, none⟩ (.bool dis) = W4 at *
  clear p0 p1 pf kk kf
  with_reducible refine (HT5.out W4).mono ?_
  rintro e w5 ⟨A, c, rfl, ho, hnw, ht⟩
  unfold refV
  have hsz : w.heap.size + 4 < W4.heap.size := (Array.getElem?_eq_some_iff.1 (HG4.out.v _ rfl)).1
  have hg := HG4.out.still ht
  clear r0 r1
  have p0 : _ = some (.string ⟨s4.bs.toArray⟩ : Value) := cell6 hg.r 0
  have p1 : _ = some (.int .i64 s4.e : Value) := cell6 hg.r 1
  have pf := free6 hg.r
  have kk : _ = some (.slice none 0 0 : Value) := cell6 (hg.v _ rfl) 4
  have kf := free6 (hg.v _ rfl)
  have hg2 := hg.read (a' := .string ⟨s5.bs.toArray⟩) (b' := .int .i64 s5.e) (j := 4) (x := .slice A gs.length c) (xs' := #[.string x1, .string x2, .string x3, .bool dis, .slice A gs.length c]) rfl
  have HG5 := Lib.hid hg2
  have r0 : _ = some (.string ⟨s5.bs.toArray⟩ : Value) := cell6 hg2.r 0
  have r1 : _ = some (.int .i64 s5.e : Value) := cell6 hg2.r 1
  have HO5 : Hid (Own6 w A gs c (((w5.setCell ⟨w.heap.size, 0, none⟩ (.string ⟨s5.bs.toArray⟩)).setCell ⟨w.heap.size, 1, none⟩ (.int .i64 s5.e)).setCell ⟨w.heap.size + 4, 4, none⟩ (.slice A gs.length c))) := Own6.turns (S := fun i => i = w.heap.size ∨ i = w.heap.size + 4) (W := w5) ⟨ho, fun j hj => by have := hnw j hj; omega⟩
    ((((Turns.refl _ _).setCell (p := ⟨w.heap.size, 0, none⟩) (fun _ => .inl rfl) _).setCell (p := ⟨w.heap.size, 1, none⟩) (fun _ => .inl rfl) _).setCell (p := ⟨w.heap.size + 4, 4, none⟩) (fun _ => .inr rfl) _) (fun j hj => by omega)
  clear ho hnw hsz
  clear hg hg2 ht HG4 HT5
  go_wp2_with fail
  generalize ((w5.setCell ⟨w.heap.size, 0, none⟩ (.string ⟨s5.bs.toArray⟩)).setCell ⟨w.heap.size, 1, none⟩ (.int .i64 s5.e)).setCell ⟨w.heap.size + 4, 4, none⟩ (.slice A gs.length c) = W5 at *
  clear p0 p1 pf kk kf
  clear r0 r1
  refine wp_region_st2 (by kernel_rfl) (YC6 2 (.agg #[.string ⟨s5.bs.toArray⟩, .int .i64 s5.e]) (.agg #[.string x1, .string x2, .string x3, .bool dis, .slice A gs.length c]) ck (.agg #[.string ⟨s6.bs.toArray⟩, .int .i64 s6.e])) (GC6 w #[.string ⟨s5.bs.toArray⟩, .int .i64 s5.e] #[.string ⟨s6.bs.toArray⟩, .int .i64 s6.e] #[.string ⟨#[]⟩, .int .i64 0] #[.string ⟨#[]⟩, .string ⟨#[]⟩, .string ⟨#[]⟩, .bool false, .slice none 0 0] (some #[.string x1, .string x2, .string x3, .bool dis, .slice A gs.length c]) A gs c) ?F ?hF (by kernel_rfl) (by kernel_rfl) ⟨HG5.out.still ((Turns.refl _ _).drew), HO5.out.below (below_drew (Below.refl _ _)), fun h => by cases h⟩ ?step ?fin
  case hF =>
    intro x
    simp only [List.map_cons, List.map_nil, putL, Act.put, List.setIfInBounds_toArray, List.set_cons_zero, List.set_cons_succ, Nat.zero_add, Nat.reduceAdd]
    exact rfl
  case step =>
    refine ⟨?_, ?_, ?_, ?_, ?_, ?_, trivial⟩
    all_goals intro L x W hL hd hG hdep K hK
    · have hg := hG.ahead 0 (by omega) hL
      have r0 : W.cell? ⟨w.heap.size, 0, none⟩ = some (.string ⟨s5.bs.toArray⟩) := cell6 hg.r 0
      have r1 : W.cell? ⟨w.heap.size, 1, none⟩ = some (.int .i64 s5.e) := cell6 hg.r 1
      clear hdep hg
      go_simp
      exact hK _ _ rfl (hG.quiet 0 (by omega) hL (Below.refl _ _)) (fun _ _ h => h)
    · clear hdep
      go_simp
      exact hK _ _ rfl (hG.quiet 1 (by omega) hL (Below.refl _ _)) (fun _ _ h => h)
    · have hg := hG.ahead 2 (by omega) hL
      have k0 : W.cell? ⟨w.heap.size + 4, 0, none⟩ = some (.string x1) := cell6 (hg.v _ rfl) 0
      have k1 : W.cell? ⟨w.heap.size + 4, 1, none⟩ = some (.string x2) := cell6 (hg.v _ rfl) 1
      have k2 : W.cell? ⟨w.heap.size + 4, 2, none⟩ = some (.string x3) := cell6 (hg.v _ rfl) 2
      have k3 : W.cell? ⟨w.heap.size + 4, 3, none⟩ = some (.bool dis) := cell6 (hg.v _ rfl) 3
      have k4 : W.cell? ⟨w.heap.size + 4, 4, none⟩ = some (.slice A gs.length c) := cell6 (hg.v _ rfl) 4
      clear hdep hg
      go_simp
      exact hK _ _ rfl (hG.quiet 2 (by omega) hL (Below.refl _ _)) (fun _ _ h => h)
    · have h1 : x 1 = _ := hdep 1 rfl
      have h2 : x 2 = _ := hdep 2 rfl
      clear hdep
      simp only [h1, h2] at hK
      go_simp
      refine (HCK.out W A c hG.2.1).mono ?_
      rintro e W' ⟨rfl, hb⟩
      exact hK _ _ rfl (hG.quiet 3 (by omega) hL hb) (fun j _ h => YC6_keep j _ h)
    · have h0 : x 0 = _ := hdep 0 rfl
      have h3 : x 3 = _ := hdep 3 rfl
      clear hdep
      simp only [h0, h3] at hK
      go_simp
      refine (HFL.out W).mono ?_
      rintro e W' ⟨rfl, ht⟩
      exact hK _ _ rfl (hG.quiet 4 (by omega) hL (ht.below (fun _ f => f.elim))) (fun j _ h => YC6_keep j _ h)
    · have h4 : x 4 = .agg #[.string ⟨s6.bs.toArray⟩, .int .i64 s6.e] := hdep 4 rfl
      have hd0 : ∀ j, j < 5 → L j = true := fun j hj => hd j (by rcases j with _ | _ | _ | _ | _ | j <;> first | rfl | omega)
      refine step_store6 (by rfl) 68 (.tmp 2) (.tmp 55) rfl w.heap.size rfl _ h4 _ _ hG.1.r size6R (ite_block rfl rfl) (by simp [Value.oneCell']) ?_
      exact hK _ _ trivial (hG.stored hd0) (fun j _ h => YC6_keep j _ h)
  case fin =>
    intro L x W8 hall hG hY
    have hg := hG.1
    rw [hall 5 (by decide), if_pos rfl] at hg
    have HG8 := Lib.hid hg
    have HO8 := Lib.hid hG.2.1
    have r1 : _ = some (.int .i64 s6.e : Value) := cell6 hg.r 1
    clear hY hG hg hall HCK HFL HG5 HO5
    by_cases h0 : s6.e = 0
    · have h0d : (s6.e != 0) = false := by simpa using h0
      have HP1 : Hid (∀ W, Own6 w A gs c W → Turns (fun _ => False) w W → RGot6 w s6 u (.returned (.tuple #[.agg #[.string ⟨s6.bs.toArray⟩, .int .i64 s6.e], .agg #[.string x1, .string x2, .string x3, .bool dis, .slice A gs.length c]])) W) := fun W ho ht => by
        refine ⟨A, c, by rw [if_pos h0, HU.out, HGS.out]; rfl, ?_, ?_, ht⟩
        · rw [HGS.out]; exact ho.1
        · rw [HGS.out]; exact fun j hj => by have := ho.2 j hj; omega
      clear HU
      go_wp2_with fail
      clear r1 h0 h0d
      refine wp_region_st2 (by kernel_rfl) (YL6 (.agg #[.string ⟨s6.bs.toArray⟩, .int .i64 s6.e]) (.agg #[.string x1, .string x2, .string x3, .bool dis, .slice A gs.length c])) (GL6 w #[.string ⟨s6.bs.toArray⟩, .int .i64 s6.e] #[.string ⟨#[]⟩, .int .i64 0] #[.string ⟨s6.bs.toArray⟩, .int .i64 s6.e] #[.string ⟨#[]⟩, .string ⟨#[]⟩, .string ⟨#[]⟩, .bool false, .slice none 0 0] #[.string x1, .string x2, .string x3, .bool dis, .slice A gs.length c] (some #[.string x1, .string x2, .string x3, .bool dis, .slice A gs.length c]) A gs c) ?F1 ?hF1 (by kernel_rfl) (by kernel_rfl) ⟨HG8.out.still ((Turns.refl _ _).drew), HO8.out.below (below_drew (Below.refl _ _))⟩ ?step1 ?fin1
      case hF1 =>
        intro x
        simp only [List.map_cons, List.map_nil, putL, Act.put, List.setIfInBounds_toArray, List.set_cons_zero, List.set_cons_succ, Nat.zero_add]
        exact rfl
      case step1 =>
        refine ⟨?_, ?_, ?_, ?_, trivial⟩
        all_goals intro L x W hL hd hG hdep K hK
        · have hg := hG.1
          have r0 : W.cell? ⟨w.heap.size, 0, none⟩ = some (.string ⟨s6.bs.toArray⟩) := cell6 hg.r 0
          have r1 : W.cell? ⟨w.heap.size, 1, none⟩ = some (.int .i64 s6.e) := cell6 hg.r 1
          clear hdep hg
          go_simp
          exact hK _ _ rfl (hG.quiet 0 (by omega)) (fun _ _ h => h)
        · have hg := hG.1
          have k0 : W.cell? ⟨w.heap.size + 4, 0, none⟩ = some (.string x1) := cell6 (hg.v _ rfl) 0
          have k1 : W.cell? ⟨w.heap.size + 4, 1, none⟩ = some (.string x2) := cell6 (hg.v _ rfl) 1
          have k2 : W.cell? ⟨w.heap.size + 4, 2, none⟩ = some (.string x3) := cell6 (hg.v _ rfl) 2
          have k3 : W.cell? ⟨w.heap.size + 4, 3, none⟩ = some (.bool dis) := cell6 (hg.v _ rfl) 3
          have k4 : W.cell? ⟨w.heap.size + 4, 4, none⟩ = some (.slice A gs.length c) := cell6 (hg.v _ rfl) 4
          clear hdep hg
          go_simp
          exact hK _ _ rfl (hG.quiet 1 (by omega)) (fun _ _ h => h)
        · have h0 : x 0 = .agg #[.string ⟨s6.bs.toArray⟩, .int .i64 s6.e] := hdep 0 rfl
          refine step_store6 (by rfl) 68 (.tmp 4) (.tmp 61) rfl (w.heap.size + 1) rfl _ h0 _ _ hG.1.q size6R (ite_block rfl rfl) (by simp [Value.oneCell']) ?_
          exact hK _ _ trivial hG.storedQ (fun j _ h => YL6_keep j _ h)
        · have h1 : x 1 = .agg #[.string x1, .string x2, .string x3, .bool dis, .slice A gs.length c] := hdep 1 rfl
          refine step_store6 (by rfl) 43 (.tmp 5) (.tmp 62) rfl (w.heap.size + 2) rfl _ h1 _ _ hG.1.y size6U (ite_block rfl rfl) (by simp [Value.oneCell']) ?_
          exact hK _ _ trivial hG.storedY (fun j _ h => YL6_keep j _ h)
      case fin1 =>
        intro L x W hall hG hY
        have hg := hG.1
        rw [hall 2 (by decide), hall 3 (by decide), if_pos rfl, if_pos rfl] at hg
        have q0 : W.cell? ⟨w.heap.size + 1, 0, none⟩ = some (.string ⟨s6.bs.toArray⟩) := cell6 hg.q 0
        have q1 : W.cell? ⟨w.heap.size + 1, 1, none⟩ = some (.int .i64 s6.e) := cell6 hg.q 1
        have y0 : W.cell? ⟨w.heap.size + 2, 0, none⟩ = some (.string x1) := cell6 hg.y 0
        have y1 : W.cell? ⟨w.heap.size + 2, 1, none⟩ = some (.string x2) := cell6 hg.y 1
        have y2 : W.cell? ⟨w.heap.size + 2, 2, none⟩ = some (.string x3) := cell6 hg.y 2
        have y3 : W.cell? ⟨w.heap.size + 2, 3, none⟩ = some (.bool dis) := cell6 hg.y 3
        have y4 : W.cell? ⟨w.heap.size + 2, 4, none⟩ = some (.slice A gs.length c) := cell6 hg.y 4
        have hfin := HP1.out W hG.2 hg.t
        clear hY hG hg hall
        go_wp2
        refine bodyPost_ret (v := .tuple #[.agg #[.string ⟨s6.bs.toArray⟩, .int .i64 s6.e], .agg #[.string x1, .string x2, .string x3, .bool dis, .slice A gs.length c]]) ?_ rfl hfin
        simp [results, Tryz.results57, go_sem, q0, q1, y0, y1, y2, y3, y4]
    · have h0d : (s6.e != 0) = true := by simpa using h0
      have HP2 : Hid (∀ W, Own6 w A gs c W → Turns (fun _ => False) w W → RGot6 w s6 u (.returned (.tuple #[.agg #[.string ⟨s6.bs.toArray⟩, .int .i64 s6.e], .agg #[.string ⟨#[]⟩, .string ⟨#[]⟩, .string ⟨#[]⟩, .bool false, .slice none 0 0]])) W) := fun W ho ht => by
        refine ⟨A, c, by rw [if_neg h0]; rfl, ?_, ?_, ht⟩
        · rw [HGS.out]; exact ho.1
        · rw [HGS.out]; exact fun j hj => by have := ho.2 j hj; omega
      clear HU
      go_wp2_with fail
      clear r1 h0 h0d
      refine wp_region_st2 (by kernel_rfl) (YL6 (.agg #[.string ⟨s6.bs.toArray⟩, .int .i64 s6.e]) (.agg #[.string ⟨#[]⟩, .string ⟨#[]⟩, .string ⟨#[]⟩, .bool false, .slice none 0 0])) (GL6 w #[.string ⟨s6.bs.toArray⟩, .int .i64 s6.e] #[.string ⟨#[]⟩, .int .i64 0] #[.string ⟨s6.bs.toArray⟩, .int .i64 s6.e] #[.string ⟨#[]⟩, .string ⟨#[]⟩, .string ⟨#[]⟩, .bool false, .slice none 0 0] #[.string ⟨#[]⟩, .string ⟨#[]⟩, .string ⟨#[]⟩, .bool false, .slice none 0 0] (some #[.string x1, .string x2, .string x3, .bool dis, .slice A gs.length c]) A gs c) ?F2 ?hF2 (by kernel_rfl) (by kernel_rfl) ⟨HG8.out.still ((Turns.refl _ _).drew), HO8.out.below (below_drew (Below.refl _ _))⟩ ?step2 ?fin2
      case hF2 =>
        intro x
        simp only [List.map_cons, List.map_nil, putL, Act.put, List.setIfInBounds_toArray, List.set_cons_zero, List.set_cons_succ, Nat.zero_add]
        exact rfl
      case step2 =>
        refine ⟨?_, ?_, ?_, ?_, trivial⟩
        all_goals intro L x W hL hd hG hdep K hK
        · have hg := hG.1
          have r0 : W.cell? ⟨w.heap.size, 0, none⟩ = some (.string ⟨s6.bs.toArray⟩) := cell6 hg.r 0
          have r1 : W.cell? ⟨w.heap.size, 1, none⟩ = some (.int .i64 s6.e) := cell6 hg.r 1
          clear hdep hg
          go_simp
          exact hK _ _ rfl (hG.quiet 0 (by omega)) (fun _ _ h => h)
        · have hg := hG.1
          have k0 : W.cell? ⟨w.heap.size + 3, 0, none⟩ = some (.string ⟨#[]⟩) := cell6 hg.z 0
          have k1 : W.cell? ⟨w.heap.size + 3, 1, none⟩ = some (.string ⟨#[]⟩) := cell6 hg.z 1
          have k2 : W.cell? ⟨w.heap.size + 3, 2, none⟩ = some (.string ⟨#[]⟩) := cell6 hg.z 2
          have k3 : W.cell? ⟨w.heap.size + 3, 3, none⟩ = some (.bool false) := cell6 hg.z 3
          have k4 : W.cell? ⟨w.heap.size + 3, 4, none⟩ = some (.slice none 0 0) := cell6 hg.z 4
          clear hdep hg
          go_simp
          exact hK _ _ rfl (hG.quiet 1 (by omega)) (fun _ _ h => h)
        · have h0 : x 0 = .agg #[.string ⟨s6.bs.toArray⟩, .int .i64 s6.e] := hdep 0 rfl
          refine step_store6 (by rfl) 68 (.tmp 4) (.tmp 59) rfl (w.heap.size + 1) rfl _ h0 _ _ hG.1.q size6R (ite_block rfl rfl) (by simp [Value.oneCell']) ?_
          exact hK _ _ trivial hG.storedQ (fun j _ h => YL6_keep j _ h)
        · have h1 : x 1 = .agg #[.string ⟨#[]⟩, .string ⟨#[]⟩, .string ⟨#[]⟩, .bool false, .slice none 0 0] := hdep 1 rfl
          refine step_store6 (by rfl) 43 (.tmp 5) (.tmp 60) rfl (w.heap.size + 2) rfl _ h1 _ _ hG.1.y size6U (ite_block rfl rfl) (by simp [Value.oneCell']) ?_
          exact hK _ _ trivial hG.storedY (fun j _ h => YL6_keep j _ h)
      case fin2 =>
        intro L x W hall hG hY
        have hg := hG.1
        rw [hall 2 (by decide), hall 3 (by decide), if_pos rfl, if_pos rfl] at hg
        have q0 : W.cell? ⟨w.heap.size + 1, 0, none⟩ = some (.string ⟨s6.bs.toArray⟩) := cell6 hg.q 0
        have q1 : W.cell? ⟨w.heap.size + 1, 1, none⟩ = some (.int .i64 s6.e) := cell6 hg.q 1
        have y0 : W.cell? ⟨w.heap.size + 2, 0, none⟩ = some (.string ⟨#[]⟩) := cell6 hg.y 0
        have y1 : W.cell? ⟨w.heap.size + 2, 1, none⟩ = some (.string ⟨#[]⟩) := cell6 hg.y 1
        have y2 : W.cell? ⟨w.heap.size + 2, 2, none⟩ = some (.string ⟨#[]⟩) := cell6 hg.y 2
        have y3 : W.cell? ⟨w.heap.size + 2, 3, none⟩ = some (.bool false) := cell6 hg.y 3
        have y4 : W.cell? ⟨w.heap.size + 2, 4, none⟩ = some (.slice none 0 0) := cell6 hg.y 4
        have hfin := HP2.out W hG.2 hg.t
        clear hY hG hg hall
        go_wp2
        refine bodyPost_ret (v := .tuple #[.agg #[.string ⟨s6.bs.toArray⟩, .int .i64 s6.e], .agg #[.string ⟨#[]⟩, .string ⟨#[]⟩, .string ⟨#[]⟩, .bool false, .slice none 0 0]]) ?_ rfl hfin
        simp [results, Tryz.results57, go_sem, q0, q1, y0, y1, y2, y3, y4]
end Go.Proofs.YtoeepbmbfambcaaGreatDoor

namespace Go.Proofs.YtoeepbmbfambcaaGreatDoor
open Go.RowKit

theorem takeS_few6 (st : St) (n : Nat) : (takeS st n).2.length ≤ st.bs.length := by
  unfold takeS
  split
  · simp
  · simp only [List.length_take]; omega
theorem textS_few6 (st : St) (m : Int) : (textS st m).2.length ≤ st.bs.length := Nat.le_trans (takeS_few6 _ _) (lengthS_left st m)
theorem truthS_left6 (st : St) : (truthS st).1.bs.length ≤ st.bs.length := by
  unfold truthS
  split
  · exact Nat.le_trans (failS_length _ _) (numS_left st 1)
  · exact numS_left st 1
theorem mk6_size (l : List UInt8) : (mk6 l).size = l.length := by
  show l.toArray.size = _
  rw [List.size_toArray]
theorem rowGo_sizes6 (long : Int) (n : Nat) : ∀ (k : Nat) (st : St) (acc : List ByteArray), st.bs.length ≤ n → (∀ s ∈ acc, s.size ≤ n) → ∀ s ∈ (rowGo long k st acc).2, s.size ≤ n
  | 0, _, _, _, h => h
  | k + 1, st, acc, hl, h => by
    unfold rowGo
    split
    · intro s hs; cases hs
    · refine rowGo_sizes6 long n k _ _ (Nat.le_trans (textS_left st long) hl) (fun s hs => ?_)
      rcases List.mem_append.1 hs with hs | hs
      · exact h s hs
      · rw [List.mem_singleton.1 hs]
        have h1 := mk6_size (textS st long).2
        have h2 := textS_few6 st long
        unfold mk6 at h1
        omega
theorem rowS_sizes6 (st : St) (m l : Int) : ∀ s ∈ (rowS st m l).2, s.size ≤ st.bs.length :=
  rowGo_sizes6 l _ _ _ _ (lengthS_left st m) (fun s hs => by cases hs)

/-- The first schema's parts. -/
def one6S (st : St) : St × Us := ((textS (textS st 65535).1 65535).1, one6 (textS st 65535).2 (textS (textS st 65535).1 65535).2)
/-- The second one's, behind the first two. -/
def two6S (st : St) (nm hs : List UInt8) : St × Us :=
  ((rowS (truthS (textS st 65535).1).1 65535 65535).1, two6 nm hs (textS st 65535).2 (truthS (textS st 65535).1).2 (rowS (truthS (textS st 65535).1).1 65535 65535).2)
/-- What is read of a schema, and what is left. -/
def getS (s : Int) (st : St) : St × Us :=
  if s = 1 then (failS (one6S st).1 (chk6 1 (one6S st).2), (one6S st).2)
  else if s = 2 then (failS (two6S (one6S st).1 (textS st 65535).2 (textS (textS st 65535).1 65535).2).1 (chk6 2 (two6S (one6S st).1 (textS st 65535).2 (textS (textS st 65535).1 65535).2).2), (two6S (one6S st).1 (textS st 65535).2 (textS (textS st 65535).1 65535).2).2)
  else (failS st 6, zeroU)
theorem getS_none {s : Int} (h : know6 s = false) (st : St) : getS s st = (failS st 6, zeroU) := by
  simp only [know6, Bool.or_eq_false_iff, decide_eq_false_iff_not] at h
  unfold getS
  rw [if_neg h.1, if_neg h.2]

theorem getS_one {st s1 s2 : St} {nm hs : List UInt8} (h1 : textS st 65535 = (s1, nm)) (h2 : textS s1 65535 = (s2, hs)) : getS 1 st = (failS s2 (chk6 1 (one6 nm hs)), one6 nm hs) := by
  unfold getS one6S
  rw [if_pos rfl]
  simp only [h1, h2]
theorem getS_two {st s1 s2 s3 s4 s5 : St} {nm hs ml : List UInt8} {dis : Bool} {gs : List ByteArray} (h1 : textS st 65535 = (s1, nm)) (h2 : textS s1 65535 = (s2, hs)) (h3 : textS s2 65535 = (s3, ml)) (h4 : truthS s3 = (s4, dis)) (h5 : rowS s4 65535 65535 = (s5, gs)) :
    getS 2 st = (failS s5 (chk6 2 (two6 nm hs ml dis gs)), two6 nm hs ml dis gs) := by
  unfold getS one6S two6S
  rw [if_neg (by decide), if_pos rfl]
  simp only [h1, h2, h3, h4, h5]
/-- What is read part by part. -/
structure Parts6 (st s1 s2 s3 s4 s5 : St) (nm hs ml : List UInt8) (dis : Bool) (gs : List ByteArray) : Prop where
  h1 : textS st 65535 = (s1, nm)
  h2 : textS s1 65535 = (s2, hs)
  h3 : textS s2 65535 = (s3, ml)
  h4 : truthS s3 = (s4, dis)
  h5 : rowS s4 65535 65535 = (s5, gs)
  l1 : s1.bs.length ≤ 1000
  l2 : s2.bs.length ≤ 1000
  l3 : s3.bs.length ≤ 1000
  l4 : s4.bs.length ≤ 1000
  f1 : nm.length ≤ 1000
  f2 : hs.length ≤ 1000
  f3 : ml.length ≤ 1000
  f5 : ∀ s ∈ gs, s.size ≤ 1000
theorem parts6 (st : St) (hl : st.bs.length ≤ 1000) : ∃ s1 s2 s3 s4 s5 nm hs ml dis gs, Parts6 st s1 s2 s3 s4 s5 nm hs ml dis gs := by
  have l1 := textS_left st 65535
  have f1 := textS_few6 st 65535
  rcases h1 : textS st 65535 with ⟨s1, nm⟩
  rw [h1] at l1 f1
  have l2 := textS_left s1 65535
  have f2 := textS_few6 s1 65535
  rcases h2 : textS s1 65535 with ⟨s2, hs⟩
  rw [h2] at l2 f2
  have l3 := textS_left s2 65535
  have f3 := textS_few6 s2 65535
  rcases h3 : textS s2 65535 with ⟨s3, ml⟩
  rw [h3] at l3 f3
  have l4 := truthS_left6 s3
  rcases h4 : truthS s3 with ⟨s4, dis⟩
  rw [h4] at l4
  have f5 := rowS_sizes6 s4 65535 65535
  rcases h5 : rowS s4 65535 65535 with ⟨s5, gs⟩
  rw [h5] at f5
  dsimp only at l1 l2 l3 l4 f1 f2 f3 f5
  exact ⟨s1, s2, s3, s4, s5, nm, hs, ml, dis, gs, h1, h2, h3, h4, h5, by omega, by omega, by omega, by omega, by omega, by omega, by omega, fun s hs => by have := f5 s hs; omega⟩

theorem get6_all (s : Int) (B : Nat) (st : St) (w : World) (h : Rdr w B st) (hl : st.bs.length ≤ 1000) (hm : Len5 w) (hBg : B ≠ 0) :
    Calls Tryz.prog 48 #[.pointer (some ⟨B, 0, none⟩), .int .i64 s] w (Got6 w B (getS s st).1 (getS s st).2) := by
  cases hk : know6 s with
  | false =>
    rw [getS_none hk]
    refine (get6_none s B st w h hk).mono ?_
    rintro e w' ⟨rfl, hd⟩
    refine ⟨none, 0, ?_, World.ownsRow_nil _ _ _ _, by simp [Value.ownBlock], hd⟩
    have e : (if (failS st 6).e = 0 then ({ zeroU with ga := none, gc := 0 } : Us) else zeroU) = zeroU := by split <;> rfl
    rw [e]
  | true =>
    obtain ⟨s1, s2, s3, s4, s5, nm, hs, ml, dis, gs, p⟩ := parts6 st hl
    obtain ⟨h1, h2, h3, h4, h5, l1, l2, l3, l4, f1, f2, f3, f5⟩ := p
    have hs : s = 1 ∨ s = 2 := by simpa [know6] using hk
    rcases hs with rfl | rfl
    · rw [getS_one h1 h2]
      exact get6_one B st w h (by omega) hm hBg _ _ _ _ _ h1 h2 rfl (by omega) (by omega)
    · rw [getS_two h1 h2 h3 h4 h5]
      exact get6_two B st w h (by omega) hm hBg _ _ _ _ _ _ _ _ _ _ _ h1 h2 h3 h4 h5 rfl (by omega) (by omega) (by omega) (by omega) (by omega) (by omega) (by omega) (fun s hs => by have := f5 s hs; omega)

theorem rget6_all (s : Int) (st : St) (w : World) (hok : Ok st) (hl : st.bs.length ≤ 1000) :
    Calls Tryz.prog 57 #[refV st, .int .i64 s] w (RGot6 w (getS s st).1 (getS s st).2) := by
  cases hk : know6 s with
  | false =>
    rw [getS_none hk]
    exact rget6_none s st w hk
  | true =>
    obtain ⟨s1, s2, s3, s4, s5, nm, hs, ml, dis, gs, p⟩ := parts6 st hl
    obtain ⟨h1, h2, h3, h4, h5, l1, l2, l3, l4, f1, f2, f3, f5⟩ := p
    have o1 : Ok s1 := by have := hok.text 65535; rw [h1] at this; exact this
    have o2 : Ok s2 := by have := o1.text 65535; rw [h2] at this; exact this
    have hs : s = 1 ∨ s = 2 := by simpa [know6] using hk
    rcases hs with rfl | rfl
    · rw [getS_one h1 h2]
      exact rget6_one st w _ _ _ _ _ h1 h2 rfl hok hl o1 l1 f1 f2
    · have o3 : Ok s3 := by have := o2.text 65535; rw [h3] at this; exact this
      have o4 : Ok s4 := by have := o3.truth; rw [h4] at this; exact this
      rw [getS_two h1 h2 h3 h4 h5]
      exact rget6_two st w _ _ _ _ _ _ _ _ _ _ _ h1 h2 h3 h4 h5 rfl hok hl o1 l1 o2 l2 o3 l3 o4 l4 f1 f2 f3 f5

/-- Its parts are short. -/
structure Us.Short (u : Us) : Prop where
  nm : u.nm.size ≤ 1000
  hs : u.hs.size ≤ 1000
  ml : u.ml.size ≤ 1000
  all : ∀ s ∈ u.gs, s.size ≤ 1000
theorem getS_short (s : Int) (st : St) (hl : st.bs.length ≤ 1000) : (getS s st).2.Short := by
  cases hk : know6 s with
  | false =>
    rw [getS_none hk]
    exact ⟨Nat.zero_le _, Nat.zero_le _, Nat.zero_le _, fun s hs => by cases hs⟩
  | true =>
    obtain ⟨s1, s2, s3, s4, s5, nm, hs, ml, dis, gs, p⟩ := parts6 st hl
    obtain ⟨h1, h2, h3, h4, h5, l1, l2, l3, l4, f1, f2, f3, f5⟩ := p
    rw [← mk6_size] at f1 f2 f3
    have hs : s = 1 ∨ s = 2 := by simpa [know6] using hk
    rcases hs with rfl | rfl
    · rw [getS_one h1 h2]
      exact ⟨f1, f2, Nat.zero_le _, fun s hs => by cases hs⟩
    · rw [getS_two h1 h2 h3 h4 h5]
      exact ⟨f1, f2, f3, f5⟩

/-- The user that is told: the one that was read, or with an error a zero one. -/
def tell6 (st : St) (u : Us) (A : Option Addr) (c : Nat) : Us := if st.e = 0 then { u with ga := A, gc := c } else zeroU
theorem tell6_ok {W : World} {st : St} {u : Us} {A : Option Addr} {c : Nat} (hu : u.Short) (ho : W.ownsRow 0 9 1 (.slice A u.gs.length c) u.gs.length (u.gs.map Value.string)) : (tell6 st u A c).Ok W := by
  unfold tell6
  split
  · obtain ⟨f1, f2, f3, f4⟩ := owns_facts6 ho rfl
    exact ⟨f1, Nat.le_trans hu.nm (by omega), Nat.le_trans hu.hs (by omega), Nat.le_trans hu.ml (by omega), f2, f3, f4, fun s hs => Nat.le_trans (hu.all s hs) (by omega)⟩
  · exact ⟨fun e => absurd rfl e, Nat.zero_le _, Nat.zero_le _, Nat.zero_le _, fun _ => rfl, Nat.zero_le _, Nat.zero_le _, fun s hs => by cases hs⟩
theorem tell6_same (st : St) (u : Us) (A A' : Option Addr) (c c' : Nat) : sameU (tell6 st u A c) (tell6 st u A' c') = true := by
  unfold tell6
  split <;> simp [sameU]
end Go.Proofs.YtoeepbmbfambcaaGreatDoor

namespace Go.Proofs.YtoeepbmbfambcaaGreatDoor
open Go.RowKit

theorem takeS_put6 (l r : List UInt8) : takeS ⟨l ++ r, 0⟩ l.length = (⟨r, 0⟩, l) := by
  unfold takeS
  rw [if_neg (by simp), List.drop_left, List.take_left]
theorem numS_put6 (x k : Nat) (r : List UInt8) : numS ⟨le x k ++ r, 0⟩ k = (⟨r, 0⟩, x % 256 ^ k) := by
  have h := takeS_put6 (le x k) r
  rw [le_length] at h
  unfold numS
  rw [h, val_le]
theorem truthS_put6 (b : Bool) (r : List UInt8) : truthS ⟨le b.toNat 1 ++ r, 0⟩ = (⟨r, 0⟩, b) := by
  unfold truthS
  rw [numS_put6]
  cases b <;> rfl
theorem lengthS_put6 (n : Nat) (r : List UInt8) (most : Int) (hn : n ≤ 65535) (hm : (n : Int) ≤ most) : lengthS ⟨le n 2 ++ r, 0⟩ most = (⟨r, 0⟩, n) := by
  unfold lengthS
  rw [numS_put6, Nat.mod_eq_of_lt (by omega), if_neg (by omega)]
theorem textS_put6 (s : ByteArray) (r : List UInt8) (most : Int) (hs : s.size ≤ 65535) (hm : (s.size : Int) ≤ most) : textS ⟨textB s ++ r, 0⟩ most = (⟨r, 0⟩, s.data.toList) := by
  unfold textS textB
  rw [List.append_assoc, lengthS_put6 _ _ _ hs hm]
  have h := takeS_put6 s.data.toList r
  rwa [bytes_length] at h
theorem bytes_back6 (s : ByteArray) : ByteArray.mk s.data.toList.toArray = s := by
  obtain ⟨⟨l⟩⟩ := s
  rfl
theorem rowGo_put6 (long : Int) : ∀ (ss acc : List ByteArray) (r : List UInt8), (∀ s ∈ ss, s.size ≤ 65535 ∧ (s.size : Int) ≤ long) → rowGo long ss.length ⟨textsB ss ++ r, 0⟩ acc = (⟨r, 0⟩, acc ++ ss)
  | [], acc, r, _ => by simp [rowGo, textsB]
  | s :: ss, acc, r, h => by
    have h1 := h s (List.mem_cons_self ..)
    have e : textsB (s :: ss) ++ r = textB s ++ (textsB ss ++ r) := by simp [textsB]
    rw [List.length_cons, e]
    unfold rowGo
    rw [textS_put6 s _ long h1.1 h1.2, if_neg (by simp), bytes_back6, rowGo_put6 long ss _ r (fun t ht => h t (List.mem_cons_of_mem _ ht)), List.append_assoc]
    rfl
theorem rowS_put6 (ss : List ByteArray) (r : List UInt8) (most long : Int) (hn : ss.length ≤ 65535) (hm : (ss.length : Int) ≤ most) (h : ∀ s ∈ ss, s.size ≤ 65535 ∧ (s.size : Int) ≤ long) : rowS ⟨rowB ss ++ r, 0⟩ most long = (⟨r, 0⟩, ss) := by
  unfold rowS rowB
  rw [List.append_assoc, lengthS_put6 _ _ _ hn hm, rowGo_put6 long ss [] r h, List.nil_append]

theorem userB_length {s : Int} {u : Us} (h : u.Little) : (userB s u).length ≤ 1000 := by
  have h1 := h.nm
  have h2 := h.hs
  have h3 := h.ml
  have h4 := rowB_little u h
  unfold userB
  split
  · simp only [List.length_append, textB_length, le_length]
    omega
  · simp only [List.length_append, textB_length, List.length_nil]
    omega
/-- The same user, in new memory. -/
def Back6 (w : World) (B : Nat) (u : Us) (e : Ending) (w' : World) : Prop := ∃ A c, e = .returned ({ u with ga := A, gc := c } : Us).v ∧ w'.ownsRow 0 9 1 (.slice A u.gs.length c) u.gs.length (u.gs.map Value.string) ∧ (∀ j, Value.ownBlock (.slice A u.gs.length c) = some j → w.heap.size ≤ j) ∧ Did w B ⟨[], 0⟩ w'

theorem get6_back (s : Int) (u : Us) (B : Nat) (w : World) (h : Rdr w B ⟨userB s u, 0⟩) (hc : chk6 s u = 0) (hm : Len5 w) (hBg : B ≠ 0) :
    Calls Tryz.prog 48 #[.pointer (some ⟨B, 0, none⟩), .int .i64 s] w (Back6 w B u) := by
  obtain ⟨hl, hs⟩ := chk6_little hc
  have hlen := userB_length (s := s) hl
  have n1 := hl.nm
  have n2 := hl.hs
  have n3 := hl.ml
  have n4 := hl.len
  have n5 := hl.all
  rcases hs with rfl | rfl
  · obtain ⟨e1, e2, e3⟩ := bare6_eq (chk6_one hc)
    obtain ⟨nm, hs, ml, dis, ga, gs, gc⟩ := u
    dsimp only at e1 e2 e3 n1 n2 n3 n4 n5
    subst e1 e2 e3
    have g1 : textS ⟨userB 1 ⟨nm, hs, ⟨#[]⟩, false, ga, [], gc⟩, 0⟩ 65535 = (⟨textB hs ++ [], 0⟩, nm.data.toList) := by
      show textS ⟨textB nm ++ textB hs ++ [], 0⟩ 65535 = _
      rw [List.append_assoc]
      exact textS_put6 nm _ 65535 (by omega) (by omega)
    have g2 : textS ⟨textB hs ++ [], 0⟩ 65535 = (⟨[], 0⟩, hs.data.toList) := textS_put6 hs _ 65535 (by omega) (by omega)
    have ec : chk6 1 (one6 nm.data.toList hs.data.toList) = 0 := hc
    have g3 : failS ⟨[], 0⟩ (chk6 1 (one6 nm.data.toList hs.data.toList)) = ⟨[], 0⟩ := by rw [ec]; rfl
    refine (get6_one B _ w h (Nat.le_trans hlen (by omega)) hm hBg nm.data.toList hs.data.toList _ _ _ g1 g2 g3 (by rw [bytes_length]; omega) (by rw [bytes_length]; omega)).mono ?_
    rintro e w' ⟨A, c, he, ho, hn, hd⟩
    rw [if_pos rfl] at he
    exact ⟨A, c, he, ho, hn, hd⟩
  · obtain ⟨nm, hs, ml, dis, ga, gs, gc⟩ := u
    dsimp only at n1 n2 n3 n4 n5
    have g1 : textS ⟨userB 2 ⟨nm, hs, ml, dis, ga, gs, gc⟩, 0⟩ 65535 = (⟨textB hs ++ (textB ml ++ (le dis.toNat 1 ++ (rowB gs ++ []))), 0⟩, nm.data.toList) := by
      have e : userB 2 ⟨nm, hs, ml, dis, ga, gs, gc⟩ = textB nm ++ (textB hs ++ (textB ml ++ (le dis.toNat 1 ++ (rowB gs ++ [])))) := by
        show textB nm ++ textB hs ++ (textB ml ++ le dis.toNat 1 ++ rowB gs) = _
        simp only [List.append_assoc, List.append_nil]
      rw [e]
      exact textS_put6 nm _ 65535 (by omega) (by omega)
    have g2 : textS ⟨textB hs ++ (textB ml ++ (le dis.toNat 1 ++ (rowB gs ++ []))), 0⟩ 65535 = (⟨textB ml ++ (le dis.toNat 1 ++ (rowB gs ++ [])), 0⟩, hs.data.toList) := textS_put6 hs _ 65535 (by omega) (by omega)
    have g3 : textS ⟨textB ml ++ (le dis.toNat 1 ++ (rowB gs ++ [])), 0⟩ 65535 = (⟨le dis.toNat 1 ++ (rowB gs ++ []), 0⟩, ml.data.toList) := textS_put6 ml _ 65535 (by omega) (by omega)
    have g4 : truthS ⟨le dis.toNat 1 ++ (rowB gs ++ []), 0⟩ = (⟨rowB gs ++ [], 0⟩, dis) := truthS_put6 dis _
    have g5 : rowS ⟨rowB gs ++ [], 0⟩ 65535 65535 = (⟨[], 0⟩, gs) := rowS_put6 gs [] 65535 65535 (by omega) (by omega) (fun s hs => by have := n5 s hs; omega)
    have ec : chk6 2 (two6 nm.data.toList hs.data.toList ml.data.toList dis gs) = 0 := hc
    have g6 : failS ⟨[], 0⟩ (chk6 2 (two6 nm.data.toList hs.data.toList ml.data.toList dis gs)) = ⟨[], 0⟩ := by rw [ec]; rfl
    have hlen2 : (textB nm ++ (textB hs ++ (textB ml ++ (le dis.toNat 1 ++ (rowB gs ++ []))))).length ≤ 1000 := by
      have e : userB 2 ⟨nm, hs, ml, dis, ga, gs, gc⟩ = textB nm ++ (textB hs ++ (textB ml ++ (le dis.toNat 1 ++ (rowB gs ++ [])))) := by
        show textB nm ++ textB hs ++ (textB ml ++ le dis.toNat 1 ++ rowB gs) = _
        simp only [List.append_assoc, List.append_nil]
      rw [← e]
      exact hlen
    simp only [List.length_append] at hlen2
    refine (get6_two B _ w h (Nat.le_trans hlen (by omega)) hm hBg nm.data.toList hs.data.toList ml.data.toList dis gs _ _ _ _ _ _ g1 g2 g3 g4 g5 g6 ?_ ?_ ?_ ?_ (by rw [bytes_length]; omega) (by rw [bytes_length]; omega) (by rw [bytes_length]; omega) (fun s hs => by have := n5 s hs; omega)).mono ?_
    · simp only [List.length_append]; omega
    · simp only [List.length_append]; omega
    · simp only [List.length_append]; omega
    · simp only [List.length_append]; omega
    · rintro e w' ⟨A, c, he, ho, hn, hd⟩
      rw [if_pos rfl] at he
      exact ⟨A, c, he, ho, hn, hd⟩
end Go.Proofs.YtoeepbmbfambcaaGreatDoor

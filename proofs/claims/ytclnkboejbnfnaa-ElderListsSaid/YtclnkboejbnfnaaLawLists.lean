/-
  ElderLists walked: a list has just those names of the directory that begin so, rising; of two prefixes the longer one has no more.
  Conditions: texts and rows are no longer than they may be.
-/
import Derived.Test.YtclnkboejbnfnaaElderFew
namespace Go.Proofs.Ytclnkboejbnfnaa
open Go.RowKit Go.Maps Go.Sort Go.Shelf

theorem pref_more {a b : List UInt8} (h : pref5 (a ++ b) = true) : pref5 a = true := by
  unfold pref5 at h ⊢
  simp only [Bool.and_eq_true, decide_eq_true_eq, List.length_append, List.all_append] at h ⊢
  exact ⟨by omega, h.2.1⟩
theorem liE_more {a b : List UInt8} (h : liE a ≠ 0) : liE (a ++ b) ≠ 0 := by
  have key : ∀ x, liE x = 0 ↔ pref5 x = true := fun x => by
    unfold liE first7 first7
    cases pref5 x <;> simp [err5]
  rw [Ne, key] at h ⊢
  exact fun h' => h (pref_more h')
theorem begins_more {x a b : List UInt8} (h : Lib.hasPrefix x (a ++ b) = true) : Lib.hasPrefix x a = true := by
  unfold Lib.hasPrefix at *
  rw [List.isPrefixOf_iff_prefix] at *
  exact (List.prefix_append a b).trans h
/-- What the longer list has, out of the shorter one. -/
def longQ (a b : List UInt8) (x : List UInt8) : Bool := decide (liE (a ++ b) = 0) && Lib.hasPrefix x (a ++ b)
theorem long_of (L : Row7) (a b : List UInt8) (h : liE a = 0) : liL L (a ++ b) = (liL L a).filter (longQ a b) := by
  unfold liL
  rw [if_pos h]
  unfold begin7 longQ
  rw [List.filter_filter]
  by_cases h2 : liE (a ++ b) = 0
  · rw [if_pos h2]
    refine List.filter_congr fun x _ => ?_
    rw [decide_eq_true h2, Bool.true_and]
    cases hx : Lib.hasPrefix x (a ++ b)
    · simp
    · simp [begins_more hx]
  · rw [if_neg h2]
    symm
    rw [List.filter_eq_nil_iff]
    intro x _
    simp [h2]
theorem begin_size (s p : ByteArray) : Lib.hasPrefix s.data.toList p.data.toList = (decide (p.size ≤ s.size) && ((s.extract 0 p.size).toList == p.toList)) := by
  rw [← Lib.hasPrefix_of_take, ← Lib.size_eq, ← Lib.size_eq, Lib.extract_toList, Lib.toList_data]
  simp

theorem append_data (a b : ByteArray) : (a ++ b).data.toList = a.data.toList ++ b.data.toList := by simp

set_option maxRecDepth 100000 in
set_option maxHeartbeats 4000000 in
theorem lists_walk (A : Option Addr) (c n : Nat) (l : List Act7) (pre more : ByteArray) (w : World) (hl : n = l.length) (hn : n ≤ 9223372036854775807) (hr : RdA7 w A l) (hsz : ∀ t ∈ l, t.nm.size ≤ 9223372036854775807 ∧ t.hs.size ≤ 9223372036854775807) :
    Calls Try.prog 3 #[.slice A n c, .string pre, .string more] w (Tells5 true w) := by
  have hnot : ∀ (x : Bool) (w : World), (Op.unary .not (.bool x)).run Try.prog w = .ok (.bool (!x)) w := fun _ _ => rfl
  have HV : Hid (∀ W, Calls Try.prog 5 #[] W (Tells5 true W)) := fun W => lives7_calls W
  have HNW : Hid (∀ W, Calls Try.prog 7 #[] W fun e w' => e = .returned (.pointer (some ⟨W.heap.size, 0, none⟩)) ∧ w' = W.alloc (.cells #[.map none] 44)) := fun W => new7_calls W
  have HF : Hid (∀ W, Below w.heap.size w W → Calls Try.prog 6 #[.slice A n c] W (Tells5 (few7 l) W)) := fun W hb => few7_calls A c n l W hl hn (hr.later hb)
  have HR := Lib.hid hr
  have HL := Lib.hid hl
  have HSZ := Lib.hid hsz
  clear hr hl hsz
  generalize few7 l = q at *
  go_enter Try.func3, Try.ntmps3
  go_wp2_with fail
  with_reducible refine (HV.out w).mono ?_
  rintro e w1 ⟨rfl, hb⟩
  have HB1 := Lib.hid hb
  clear hb
  go_wp2_with fail
  with_reducible refine (HF.out w1 HB1.out).mono ?_
  rintro e w2 ⟨rfl, hb⟩
  have HB2 := Lib.hid (below_next HB1.out hb)
  clear hb HF HB1
  have BAD : Hid (∀ W, Below w.heap.size w W → Calls Try.prog 5 #[] W fun e w' => e = .returned (.bool true) ∧ Hid (Below w.heap.size w w')) := fun W hb => (HV.out W).mono fun e w' ⟨he, hb'⟩ => ⟨he, below_next hb hb'⟩
  clear HV
  cases q with
  | false =>
    go_wp2_with fail
    with_reducible refine (BAD.out w2 HB2.out).mono ?_
    rintro e w3 ⟨rfl, HB3⟩
    go_wp2
    go_ret
    exact ⟨rfl, HB3.out⟩
  | true =>
  by_cases hp50 : pre.size ≤ 50
  case neg =>
    have z : (pre.size : Int) > 50 := by omega
    have z' : 50 < pre.size := by omega
    have z2 : decide ((pre.size : Int) > 50) = true := decide_eq_true z
    go_wp2_with fail
    with_reducible refine (BAD.out w2 HB2.out).mono ?_
    rintro e w3 ⟨rfl, HB3⟩
    go_wp2
    go_ret
    exact ⟨rfl, HB3.out⟩
  by_cases hm50 : more.size ≤ 50
  case neg =>
    have y : ¬ (pre.size : Int) > 50 := by omega
    have y' : ¬ 50 < pre.size := by omega
    have y2 : decide ((pre.size : Int) > 50) = false := decide_eq_false y
    have z : (more.size : Int) > 50 := by omega
    have z' : 50 < more.size := by omega
    have z2 : decide ((more.size : Int) > 50) = true := decide_eq_true z
    go_wp2_with fail
    with_reducible refine (BAD.out w2 HB2.out).mono ?_
    rintro e w3 ⟨rfl, HB3⟩
    go_wp2
    go_ret
    exact ⟨rfl, HB3.out⟩
  have y : ¬ (pre.size : Int) > 50 := by omega
  have y' : ¬ 50 < pre.size := by omega
  have y2 : decide ((pre.size : Int) > 50) = false := decide_eq_false y
  have z : ¬ (more.size : Int) > 50 := by omega
  have z' : ¬ 50 < more.size := by omega
  have z2 : decide ((more.size : Int) > 50) = false := decide_eq_false z
  clear BAD
  go_wp2_with fail
  with_reducible refine (HNW.out w2).mono ?_
  rintro e w3 ⟨rfl, rfl⟩
  have HO := Lib.hid (own7_new w2)
  generalize w2.alloc (.cells #[.map none] 44) = w3 at *
  generalize w2.heap.size = B at *
  clear HNW y y' y2 z z' z2
  go_wp2
  go_loopg [9, 43] n (fun gg _ s43 wr => ∃ k : Nat, k ≤ n ∧ n - k ≤ gg ∧ s43 = .int .i64 k ∧ Hid (∃ L, Own7 w2 wr B L))
  case atStart => exact ⟨0, Nat.zero_le _, by omega, rfl, ⟨_, HO.out⟩⟩
  case round =>
    obtain ⟨k, hk, hg, rfl, HW⟩ := hrel
    by_cases hlt : k < n
    · have hltz : (k : Int) < (n : Int) := by omega
      have hkl : k < l.length := HL.out ▸ hlt
      obtain ⟨L, ho⟩ := HW.out
      obtain ⟨b, off, rfl, hb, hc⟩ := (HR.out.later (below_next HB2.out ho.below)) (by intro e; rw [e] at hkl; exact absurd hkl (Nat.not_lt_zero _))
      have c0 : wr.cell? ⟨b, off + k * 3, none⟩ = some (.int .u8 (l[k].kd : Int)) := hc k hkl 0 _ rfl
      have c1 : wr.cell? ⟨b, off + k * 3 + 1, none⟩ = some (.string l[k].nm) := hc k hkl 1 _ rfl
      have c2 : wr.cell? ⟨b, off + k * 3 + 2, none⟩ = some (.string l[k].hs) := hc k hkl 2 _ rfl
      have HC := Lib.hid ((ho.later (below_alloc (Below.refl wr.heap.size wr) (.cells #[.int .u8 (l[k].kd : Int), .string l[k].nm, .string l[k].hs] 28))).create l[k].nm l[k].hs (HSZ.out _ (List.getElem_mem hkl)).1 (HSZ.out _ (List.getElem_mem hkl)).2)
      clear hc hb ho
      generalize crE L l[k].nm.data.toList l[k].hs.data.toList = x at *
      generalize crL L l[k].nm.data.toList l[k].hs.data.toList = L' at *
      generalize l[k].kd = kd at *
      generalize l[k].nm = nm at *
      generalize l[k].hs = hs at *
      go_wp2_with (go_at_call 8; (with_reducible refine HC.out.mono ?_); rintro e w5 ⟨rfl, ho, _⟩; have HO5 : Hid (∃ L, Own7 w2 w5 B L) := ⟨_, ho⟩; clear ho)
      go_roundg (n - (k + 1))
      case measure => omega
      case rel => exact ⟨k + 1, by omega, by omega, by go_num, HO5⟩
    · have hltz : ¬ (k : Int) < (n : Int) := by omega
      obtain rfl : k = n := by omega
      obtain ⟨L, ho⟩ := HW.out
      have HO4 := Lib.hid ho
      have HA := Lib.hid ho.allu
      have HFEW := Lib.hid ho.few
      clear ho HW HO HR HL HSZ
      go_wp2_with fail
      with_reducible refine HA.out.mono ?_
      rintro e w4 ⟨v, rfl, hu, hb⟩
      have hus := Us7.of_users hu
      have HUS := Lib.hid hus
      obtain ⟨Au, cu, rfl, _⟩ := hus
      have HO5 := Lib.hid (HO4.out.later hb)
      have HLT := Lib.hid (HO5.out.list pre (by omega))
      clear hu hb HA HO4
      have HE : Hid (liE pre.data.toList ≠ 0 → liE (pre ++ more).data.toList ≠ 0) := fun h => by rw [append_data]; exact liE_more h
      have HG0 : Hid (liE pre.data.toList ≠ 0 → liL L pre.data.toList = []) := fun h => if_neg h
      have HG1 : Hid (liE pre.data.toList = 0 → liL L pre.data.toList = (L.map (·.1)).filter fun x => Lib.hasPrefix x pre.data.toList) := fun h => if_pos h
      have HQ0 : Hid (liE (pre ++ more).data.toList ≠ 0 → liL L (pre ++ more).data.toList = []) := fun h => if_neg h
      have HQ1 : Hid (liE pre.data.toList = 0 → liL L (pre ++ more).data.toList = (liL L pre.data.toList).filter (longQ pre.data.toList more.data.toList)) := fun h => by rw [append_data]; exact long_of L _ _ h
      have HLT2 : Hid (∀ W, Own7 w2 W B L → Calls Try.prog 10 #[.pointer (some ⟨B, 0, none⟩), .string (pre ++ more)] W fun e w' => ∃ v, e = .returned (.tuple #[v, .int .i64 (liE (pre ++ more).data.toList)]) ∧ Txs7 w' v (liL L (pre ++ more).data.toList) ∧ Below W.heap.size W w') := fun W ho => ho.list (pre ++ more) (by rw [ByteArray.size_append]; omega)
      generalize liE pre.data.toList = r1 at *
      generalize liE (pre ++ more).data.toList = r2 at *
      generalize liL L pre.data.toList = G at *
      generalize liL L (pre ++ more).data.toList = Q at *
      go_wp2_with fail
      with_reducible refine HLT.out.mono ?_
      rintro e w5 ⟨v2, rfl, ht, hb⟩
      have HT2 := Lib.hid ht
      obtain ⟨A2, c2, rfl, _⟩ := ht
      have HO6 := Lib.hid (HO5.out.later hb)
      have HUS5 := Lib.hid (HUS.out.later hb)
      have HC2 := Lib.hid (HLT2.out w5 HO6.out)
      clear hb HLT HLT2 HUS HO5
      go_wp2_with fail
      with_reducible refine HC2.out.mono ?_
      rintro e w6 ⟨v3, rfl, ht, hb⟩
      have HT3 := Lib.hid ht
      obtain ⟨A3, c3, rfl, _⟩ := ht
      have HT26 := Lib.hid (HT2.out.later hb)
      have HUS6 := Lib.hid (HUS5.out.later hb)
      have HB6 := Lib.hid (below_next HB2.out (HO6.out.later hb).below)
      clear hb HC2 HT2 HUS5 HO6 HB2
      by_cases h0 : r1 = 0
      case neg =>
        have g0 := HG0.out h0
        have g1 := HE.out h0
        have g2 := HQ0.out g1
        subst g0
        subst g2
        have b1 : (r1 != 0) = true := by simpa using h0
        have b2 : (r2 != 0) = true := by simpa using g1
        clear HT3 HT26 HUS6 HG0 HG1 HQ0 HQ1 HE g1
        go_wp2
        go_ret
        exact ⟨rfl, HB6.out⟩
      subst h0
      have g1 := HG1.out rfl
      have g2 := HQ1.out rfl
      have HGG := Lib.hid g1
      have HQQ := Lib.hid g2
      clear g1 g2 HG0 HG1 HQ0 HQ1 HE
      obtain ⟨m, hm⟩ : ∃ m, m = L.length := ⟨_, rfl⟩
      obtain ⟨gn, hgn⟩ : ∃ gn, gn = G.length := ⟨_, rfl⟩
      obtain ⟨qn, hqn⟩ : ∃ qn, qn = Q.length := ⟨_, rfl⟩
      rw [← hm, ← hgn, ← hqn]
      have HM := Lib.hid hm
      have HGN := Lib.hid hgn
      have HQN := Lib.hid hqn
      have hmb : (L.map (·.1)).length = L.length := List.length_map ..
      have HMB := Lib.hid hmb
      have hgle : gn ≤ m := by rw [hgn, hm, HGG.out, ← hmb]; exact List.length_filter_le _ _
      have hqle : qn ≤ gn := by rw [hqn, hgn, HQQ.out]; exact List.length_filter_le _ _
      have hm12 : m ≤ 12 := by rw [hm]; exact HFEW.out
      clear hm hgn hqn hmb
      obtain ⟨w7, hw7⟩ : ∃ w7, w7 = w6 := ⟨_, rfl⟩
      go_wp2
      go_loopg [15, 17, 18, 86] m (fun gg s15 _ _ s86 wr => ∃ k a : Nat, k ≤ m ∧ m - k ≤ gg ∧ s86 = .int .i64 k ∧ s15 = .int .i64 a ∧ a ≤ 12 ∧ Hid (a = (((L.map (·.1)).take k).filter fun x => Lib.hasPrefix x pre.data.toList).length) ∧ Hid (Below w6.heap.size w6 wr))
      case atStart => exact ⟨0, 0, Nat.zero_le _, by omega, rfl, rfl, by omega, rfl, Below.refl _ _⟩
      case round =>
        obtain ⟨k, a, hk, hg, rfl, rfl, ha12, HAT, HW⟩ := hrel
        by_cases hlt : k < m
        · have hltz : (k : Int) < (m : Int) := by omega
          have hkl : k < L.length := HM.out ▸ hlt
          have hkn : k < (L.map (·.1)).length := by rw [HMB.out]; exact hkl
          have hnm : (L.map (·.1))[k] = L[k].1 := by simp
          obtain ⟨Ax, cx, e1, hcs⟩ := HUS6.out.later HW.out
          injection e1 with e1 e2 e3
          obtain ⟨g, e4, hc⟩ := hcs k hkl
          rw [e4] at e1
          subst e1
          have hc0 : wr.cell? ⟨g, k * 5, none⟩ = some (.string (tx7 L[k].1)) := hc 0 _ rfl
          have hc1 : wr.cell? ⟨g, k * 5 + 1, none⟩ = some (.string (tx7 L[k].2)) := hc 1 _ rfl
          have hc2 : wr.cell? ⟨g, k * 5 + 2, none⟩ = some (.string ⟨#[]⟩) := hc 2 _ rfl
          have hc3 : wr.cell? ⟨g, k * 5 + 3, none⟩ = some (.bool false) := hc 3 _ rfl
          have hc4 : wr.cell? ⟨g, k * 5 + 4, none⟩ = some (.slice none 0 0) := hc 4 _ rfl
          have HBE : Hid (Lib.hasPrefix L[k].1 pre.data.toList = (decide (pre.size ≤ (tx7 L[k].1).size) && (((tx7 L[k].1).extract 0 pre.size).toList == pre.toList))) := by
            have := begin_size (tx7 L[k].1) pre
            rwa [tx7_list] at this
          have hst := filter_step (fun x => Lib.hasPrefix x pre.data.toList) (L.map (·.1)) k hkn
          rw [hnm] at hst
          have HST := Lib.hid hst
          have HAT2 : Hid (Lib.hasPrefix L[k].1 pre.data.toList = true → a < gn ∧ ∃ g2, A2 = some ⟨g2, 0, none⟩ ∧ ∀ W, Below wr.heap.size wr W → W.cell? ⟨g2, a, none⟩ = some (.string (tx7 L[k].1))) := fun hq => by
            have hf := filter_at (fun x => Lib.hasPrefix x pre.data.toList) (L.map (·.1)) k hkn (by rw [hnm]; exact hq)
            rw [← HAT.out, ← HGG.out, hnm] at hf
            obtain ⟨h1, h2⟩ := List.getElem?_eq_some_iff.1 hf
            refine ⟨by rw [HGN.out]; exact h1, ?_⟩
            obtain ⟨Ay, cy, f1, hgs⟩ := HT26.out.later HW.out
            injection f1 with f1 _ _
            obtain ⟨g2, f2, hcell⟩ := hgs a h1
            refine ⟨g2, by rw [f1, f2], fun W hb => ?_⟩
            rw [← h2]
            exact (hb.cell (p := ⟨g2, a, none⟩) (World.block_lt_of_cell? wr _ hcell)).trans hcell
          clear hcs hc e2 e3 e4 hst hnm
          generalize Lib.hasPrefix L[k].1 pre.data.toList = bg at *
          generalize tx7 L[k].1 = nm at *
          generalize tx7 L[k].2 = sh at *
          have hb1 := below_alloc (Below.refl wr.heap.size wr) (.cells #[.string nm, .string sh, .string ⟨#[]⟩, .bool false, .slice none 0 0] 37)
          have HB1 := Lib.hid (below_next HW.out hb1)
          by_cases hle : pre.size ≤ nm.size
          case neg =>
            have hbf : bg = false := by rw [HBE.out, decide_eq_false hle]; rfl
            subst hbf
            have y1 : ¬ (nm.size : Int) ≥ (pre.size : Int) := by omega
            have y2 : decide ((nm.size : Int) ≥ (pre.size : Int)) = false := decide_eq_false y1
            clear HAT2 hb1 HBE
            go_wp2
            go_roundg (m - (k + 1))
            case measure => omega
            case rel => exact ⟨k + 1, a, by omega, by omega, by go_num, rfl, ha12, by show _ = _; rw [HST.out, ← HAT.out]; rfl, HB1⟩
          have y1 : (nm.size : Int) ≥ (pre.size : Int) := by omega
          have y2 : decide ((nm.size : Int) ≥ (pre.size : Int)) = true := decide_eq_true y1
          have y3 : (pre.size : Int) ≤ (nm.size : Int) := y1
          cases hbq : ((nm.extract 0 pre.size).toList == pre.toList) with
          | false =>
            have hbf : bg = false := by rw [HBE.out, hbq]; simp
            subst hbf
            have hbq2 : ¬ (nm.extract 0 pre.size).toList = pre.toList := by simpa using hbq
            clear HAT2 hb1 HBE
            go_wp2
            go_roundg (m - (k + 1))
            case measure => omega
            case rel => exact ⟨k + 1, a, by omega, by omega, by go_num, rfl, ha12, by show _ = _; rw [HST.out, ← HAT.out]; rfl, HB1⟩
          | true =>
            have hbt : bg = true := by rw [HBE.out, hbq, decide_eq_true hle]; rfl
            subst hbt
            have hbq2 : (nm.extract 0 pre.size).toList = pre.toList := by simpa using hbq
            obtain ⟨hag, g2, rfl, hgc⟩ := HAT2.out rfl
            have HGC := Lib.hid hgc
            have HHB := Lib.hid hb1
            have hagz : ¬ (a : Int) ≥ (gn : Int) := by omega
            have hagz2 : (a : Int) < (gn : Int) := by omega
            have n1 : (nm.toList != nm.toList) = false := by simp
            have n2 : (nm.toList == nm.toList) = true := by simp
            have hU : (wr.alloc (.cells #[.string nm, .string sh, .string ⟨#[]⟩, .bool false, .slice none 0 0] 37)).cell? ⟨wr.heap.size, 0, none⟩ = some (.string nm) := by
              rw [World.cell?_alloc_at _ _ _ _ rfl]; rfl
            have hG := HGC.out _ HHB.out
            have HU := Lib.hid hU
            have HGx := Lib.hid hG
            clear HAT2 HBE hgc hb1 hU hG
            go_wp2
            have hU := HU.out
            have hG := HGx.out
            generalize wr.alloc (.cells #[.string nm, .string sh, .string ⟨#[]⟩, .bool false, .slice none 0 0] 37) = w8 at *
            generalize wr.heap.size = U at *
            clear hbq hbq2 y3
            go_quiet (fail)
            go_wp2
            go_roundg (m - (k + 1))
            case measure => omega
            case rel => exact ⟨k + 1, a + 1, by omega, by omega, by go_num, by go_num, by omega, by show _ = _; rw [HST.out, ← HAT.out]; rfl, below_drewN HB1.out _⟩
        · have hltz : ¬ (k : Int) < (m : Int) := by omega
          obtain rfl : k = m := by omega
          have hag : a = gn := by
            rw [HAT.out, List.take_of_length_le (by have := HMB.out; have := HM.out; omega), ← HGG.out, HGN.out]
          subst hag
          clear HAT
          go_wp2
          go_loopg [19, 21, 125] a (fun gg s19 _ s125 wr' => ∃ j b : Nat, j ≤ a ∧ a - j ≤ gg ∧ s125 = .int .i64 j ∧ s19 = .int .i64 b ∧ b ≤ 12 ∧ Hid (b = ((G.take j).filter (longQ pre.data.toList more.data.toList)).length) ∧ wr' = wr)
          case atStart => exact ⟨0, 0, Nat.zero_le _, by omega, rfl, rfl, by omega, rfl, rfl⟩
          case round =>
            obtain ⟨j, b, hj, hg2, rfl, rfl, hb12, HBT, rfl⟩ := hrel
            by_cases hlt2 : j < a
            · have hltz2 : (j : Int) < (a : Int) := by omega
              have hjl : j < G.length := HGN.out ▸ hlt2
              obtain ⟨Ay, cy, f1, hgs⟩ := HT26.out.later HW.out
              injection f1 with f1 f2 f3
              obtain ⟨g2, f4, hcell⟩ := hgs j hjl
              rw [f4] at f1
              subst f1
              have hst := filter_step (longQ pre.data.toList more.data.toList) G j hjl
              have HST := Lib.hid hst
              have HLG : Hid (longQ pre.data.toList more.data.toList G[j] = true → b < qn ∧ ∃ g3, A3 = some ⟨g3, 0, none⟩ ∧ wr.cell? ⟨g3, b, none⟩ = some (.string (tx7 G[j]))) := fun hq => by
                have hf := filter_at (longQ pre.data.toList more.data.toList) G j hjl hq
                rw [← HBT.out, ← HQQ.out] at hf
                obtain ⟨h1, h2⟩ := List.getElem?_eq_some_iff.1 hf
                refine ⟨by rw [HQN.out]; exact h1, ?_⟩
                obtain ⟨Az, cz, f1, hqs⟩ := HT3.out.later HW.out
                injection f1 with f1 _ _
                obtain ⟨g3, f2, hcell⟩ := hqs b h1
                exact ⟨g3, by rw [f1, f2], by rw [← h2]; exact hcell⟩
              have HLN : Hid (longQ pre.data.toList more.data.toList G[j] = false → b < qn → ∃ g3 x, A3 = some ⟨g3, 0, none⟩ ∧ wr.cell? ⟨g3, b, none⟩ = some (.string x) ∧ ¬ x.toList = (tx7 G[j]).toList) := fun hq hlt => by
                have hb' : b < Q.length := by rw [← HQN.out]; exact hlt
                obtain ⟨Az, cz, f1, hqs⟩ := HT3.out.later HW.out
                injection f1 with f1 _ _
                obtain ⟨g3, f2, hcell⟩ := hqs b hb'
                refine ⟨g3, _, by rw [f1, f2], hcell, fun e => ?_⟩
                rw [Lib.toList_data, Lib.toList_data, tx7_list, tx7_list] at e
                have hmem : Q[b] ∈ Q := List.getElem_mem hb'
                have hq2 : longQ pre.data.toList more.data.toList Q[b] = true := by
                  have hm2 : Q[b] ∈ G.filter (longQ pre.data.toList more.data.toList) := by rw [← HQQ.out]; exact hmem
                  exact (List.mem_filter.1 hm2).2
                rw [e, hq] at hq2
                cases hq2
              clear hgs f2 f3 f4 hst
              generalize longQ pre.data.toList more.data.toList G[j] = bq at *
              generalize tx7 G[j] = nm at *
              cases bq with
              | true =>
                obtain ⟨hbq, g3, rfl, hc3⟩ := HLG.out rfl
                have z1 : (b : Int) < (qn : Int) := by omega
                have n1 : (nm.toList != nm.toList) = false := by simp
                have n2 : (nm.toList == nm.toList) = true := by simp
                clear HLG HLN
                go_wp2
                go_roundg (a - (j + 1))
                case measure => omega
                case rel => exact ⟨j + 1, b + 1, by omega, by omega, by go_num, by go_num, by omega, by show _ = _; rw [HST.out, ← HBT.out]; rfl, rfl⟩
              | false =>
                by_cases hbq : b < qn
                · obtain ⟨g3, x, rfl, hc3, hne⟩ := HLN.out rfl hbq
                  have z1 : (b : Int) < (qn : Int) := by omega
                  have n2 : (x.toList == nm.toList) = false := by simpa using hne
                  clear HLG HLN
                  go_wp2
                  go_roundg (a - (j + 1))
                  case measure => omega
                  case rel => exact ⟨j + 1, b, by omega, by omega, by go_num, rfl, hb12, by show _ = _; rw [HST.out, ← HBT.out]; rfl, rfl⟩
                · have z1 : ¬ (b : Int) < (qn : Int) := by omega
                  clear HLG HLN
                  go_wp2
                  go_roundg (a - (j + 1))
                  case measure => omega
                  case rel => exact ⟨j + 1, b, by omega, by omega, by go_num, rfl, hb12, by show _ = _; rw [HST.out, ← HBT.out]; rfl, rfl⟩
            · have hltz2 : ¬ (j : Int) < (a : Int) := by omega
              obtain rfl : j = a := by omega
              have hbq : b = qn := by
                rw [HBT.out, List.take_of_length_le (by have := HGN.out; omega), ← HQQ.out, HQN.out]
              subst hbq
              clear HBT
              go_wp2
              go_ret
              exact ⟨rfl, below_next HB6.out HW.out⟩
end Go.Proofs.Ytclnkboejbnfnaa

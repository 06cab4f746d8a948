/-
  What this law alone needs, the law walked, and its statement.
  Conditions: each theorem's own.
-/
import Derived.Test.YtoeepbmbfambcaaGreatDoorRows
import Derived.Test.YtoeepbmbfambcaaGreatDoorCards
import Derived.Test.YtoeepbmbfambcaaGreatDoorTie
import Derived.Test.YtoeepbmbfambcaaGreatDoorShotAllA
import Derived.Test.YtoeepbmbfambcaaGreatDoorShotAllB
import Derived.Test.YtoeepbmbfambcaaGreatDoorShotAllC
import Derived.Test.YtoeepbmbfambcaaGreatDoorShotAllD
import Derived.Test.YtoeepbmbfambcaaGreatDoorShotAllE
namespace Go.Proofs.YtoeepbmbfambcaaGreatDoor
open Go.RowKit Go.Maps Go.Sort Go.Shelf

/-- A directory of the users is told, or that there is none. -/
def Made8 (w : World) (l : List Us) (e : Ending) (w' : World) : Prop :=
  (e = .returned (.tuple #[.pointer none, .bool false]) ∧ Below w.heap.size w w') ∨ (ofE l = 0 ∧ ∃ B, e = .returned (.tuple #[.pointer (some ⟨B, 0, none⟩), .bool true]) ∧ Own7 w w' B (rowU l))

set_option maxRecDepth 100000 in
set_option maxHeartbeats 4000000 in
theorem made8_calls (A : Option Addr) (c n : Nat) (l : List Us) (w : World) (hl : n = l.length) (hn : n ≤ 9223372036854775807) (hr : RdU7 w A l) (ho : ∀ u ∈ l, u.Ok w) (hm : Len5 w) :
    Calls Tryz.prog 8 #[.slice A n c] w (Made8 w l) := by
  have hnot : ∀ (x : Bool) (w : World), (Op.unary .not (.bool x)).run Tryz.prog w = .ok (.bool (!x)) w := fun _ _ => rfl
  have HR := Lib.hid hr
  have HL := Lib.hid hl
  have HO := Lib.hid ho
  have HM := Lib.hid hm
  have HB0 := Lib.hid (Below.refl w.heap.size w)
  clear hr hl ho hm
  go_enter Tryz.func8, Tryz.ntmps8
  by_cases h30 : 30 < n
  · have z30 : (n : Int) > 30 := by omega
    go_wp2
    go_ret2
    exact .inl ⟨rfl, HB0.out⟩
  have z30 : ¬ (n : Int) > 30 := by omega
  go_wp2
  go_loopg [5, 13] n (fun gg _ s13 wr => ∃ k : Nat, k ≤ n ∧ n - k ≤ gg ∧ s13 = .int .i64 k ∧ Hid (Below w.heap.size w wr) ∧ Hid (∀ j (h : j < l.length), j < k → fewU l[j] = true))
  case atStart => exact ⟨0, Nat.zero_le _, by omega, rfl, HB0.out, fun j _ hj => absurd hj (Nat.not_lt_zero _)⟩
  case round =>
    clear HB0
    obtain ⟨k, hk, hg, rfl, HW, A0⟩ := hrel
    by_cases hlt : k < n
    · have hltz : (k : Int) < (n : Int) := by omega
      have hkl : k < l.length := HL.out ▸ hlt
      obtain ⟨b, off, rfl, hb, hc⟩ := (HR.out.later HW.out) (by intro e; rw [e] at hkl; exact absurd hkl (Nat.not_lt_zero _))
      have c0 : wr.cell? ⟨b, off + k * 5, none⟩ = some (.string l[k].nm) := hc k hkl 0 _ rfl
      have c1 : wr.cell? ⟨b, off + k * 5 + 1, none⟩ = some (.string l[k].hs) := hc k hkl 1 _ rfl
      have c2 : wr.cell? ⟨b, off + k * 5 + 2, none⟩ = some (.string l[k].ml) := hc k hkl 2 _ rfl
      have c3 : wr.cell? ⟨b, off + k * 5 + 3, none⟩ = some (.bool l[k].dis) := hc k hkl 3 _ rfl
      have c4 : wr.cell? ⟨b, off + k * 5 + 4, none⟩ = some (.slice l[k].ga l[k].gs.length l[k].gc) := hc k hkl 4 _ rfl
      have hb1 := below_next HW.out (below_alloc (Below.refl wr.heap.size wr) (.cells #[.string l[k].nm, .string l[k].hs, .string l[k].ml, .bool l[k].dis, .slice l[k].ga l[k].gs.length l[k].gc] 43))
      have HC : Hid (Calls Tryz.prog 17 #[.agg #[.string l[k].nm, .string l[k].hs, .string l[k].ml, .bool l[k].dis, .slice l[k].ga l[k].gs.length l[k].gc]] (wr.alloc (.cells #[.string l[k].nm, .string l[k].hs, .string l[k].ml, .bool l[k].dis, .slice l[k].ga l[k].gs.length l[k].gc] 43)) (Tells5 (fewU l[k]) (wr.alloc (.cells #[.string l[k].nm, .string l[k].hs, .string l[k].ml, .bool l[k].dis, .slice l[k].ga l[k].gs.length l[k].gc] 43)))) := few6U_calls l[k] _ ((HO.out _ (List.getElem_mem hkl)).below hb1)
      have HB2 := Lib.hid hb1
      have HX : Hid (fewU l[k] = true → ∀ j (h : j < l.length), j < k + 1 → fewU l[j] = true) := fun hq j h hj => by
        by_cases e : j = k
        · subst e; exact hq
        · exact A0.out j h (by omega)
      clear hc hb hb1 A0
      generalize fewU l[k] = q at *
      generalize l[k].nm = nm at *
      generalize l[k].hs = hs at *
      generalize l[k].ml = ml at *
      generalize l[k].dis = dis at *
      generalize l[k].ga = ga at *
      generalize l[k].gs.length = gl at *
      generalize l[k].gc = gc at *
      cases q with
      | true =>
        have HY := Lib.hid (HX.out rfl)
        clear HX
        go_wp2_with (go_at_call 17; (with_reducible refine HC.out.mono ?_); rintro e w2 ⟨rfl, hb⟩; have HB3 := Lib.hid (below_next HB2.out hb); clear hb)
        go_roundg (n - (k + 1))
        case measure => omega
        case rel => exact ⟨k + 1, by omega, by omega, by go_num, HB3, HY⟩
      | false =>
        clear HX
        go_wp2_with (go_at_call 17; (with_reducible refine HC.out.mono ?_); rintro e w2 ⟨rfl, hb⟩; have HB3 := Lib.hid (below_next HB2.out hb); clear hb)
        go_ret2
        exact .inl ⟨rfl, HB3.out⟩
    · have hltz : ¬ (k : Int) < (n : Int) := by omega
      have HFW : Hid (∀ u ∈ l, fewU u = true) := fun u hu => by
        obtain ⟨j, hj, rfl⟩ := List.getElem_of_mem hu
        exact A0.out j hj (by have := HL.out; omega)
      have HOF := Lib.hid (of7_calls A c n l wr HL.out (by omega) (HR.out.later HW.out) (fun u hu => (HO.out u hu).below HW.out) (HM.out.later HW.out))
      have HRO : Hid (∀ W, Below w.heap.size w W → Calls Tryz.prog 19 #[.slice A n c, .int .i64 1] W (Errs5 (ofE l) W)) := fun W hW => rof7_calls A c n l W HL.out (by omega) (HR.out.later hW) (fun u hu => (HO.out u hu).below hW) (fun u hu => by
        obtain ⟨f1, f2, f3, _, f5⟩ := fewU_facts (HFW.out u hu)
        exact ⟨by omega, by omega, by omega, fun g hg => Nat.le_trans (f5 g hg) (by omega)⟩)
      have HZ : Hid (ofE l = ofE l) := rfl
      clear HFW HM A0 hk hg hlt
      obtain ⟨r, hr⟩ : ∃ r, r = ofE l := ⟨_, rfl⟩
      have HRE := Lib.hid hr
      rw [← hr] at HOF HRO
      clear hr HZ
      go_wp2_with fail
      with_reducible refine HOF.out.mono ?_
      rintro e w3 hcase
      clear HOF
      rcases hcase with ⟨hne, rfl, hb⟩ | ⟨h0, B, rfl, hown⟩
      · have HB3 := Lib.hid (below_next HW.out hb)
        have hx1 : (r == 0) = false := by simpa using hne
        clear hb HRO HW HRE hne
        go_wp2
        go_ret2
        exact .inl ⟨rfl, HB3.out⟩
      · subst h0
        have HB3 := Lib.hid (below_next HW.out hown.below)
        have HRO2 := Lib.hid (HRO.out w3 HB3.out)
        have HF : Hid (∀ w4, Below w3.heap.size w3 w4 → Made8 w l (.returned (.tuple #[.pointer (some ⟨B, 0, none⟩), .bool true])) w4) := fun w4 hb => by
          obtain ⟨p, q0, q1, q2, q3⟩ := hown
          exact .inr ⟨HRE.out.symm, B, rfl, Own7.later ⟨p, q0, Nat.le_trans HW.out.size q1, fun b hb' => Nat.le_trans HW.out.size (q2 b hb'), below_next HW.out q3⟩ hb⟩
        clear hown HRO HW HRE HB3
        go_wp2_with fail
        with_reducible refine HRO2.out.mono ?_
        rintro e w4 ⟨rfl, hb⟩
        have HF2 := Lib.hid (HF.out w4 hb)
        clear hb HRO2 HF
        go_wp2
        go_ret2
        exact HF2.out

/-! ### Rows of users that are the same -/
def sameL : List Us → List Us → Bool
  | [], [] => true
  | a :: l, b :: m => sameU a b && sameL l m
  | _, _ => false
theorem sameL_length : ∀ {l m : List Us}, sameL l m = true → l.length = m.length
  | [], [], _ => rfl
  | a :: l, b :: m, h => by
    unfold sameL at h
    rw [Bool.and_eq_true] at h
    rw [List.length_cons, List.length_cons, sameL_length h.2]
  | [], _ :: _, h => by cases h
  | _ :: _, [], h => by cases h
theorem sameL_rowU : ∀ {l m : List Us}, (∀ u ∈ l, chk6 1 u = 0) → (∀ u ∈ m, chk6 1 u = 0) → (sameL l m = true ↔ rowU l = rowU m)
  | [], [], _, _ => by simp [sameL]
  | [], _ :: _, _, _ => by simp [sameL, rowU]
  | _ :: _, [], _, _ => by simp [sameL, rowU]
  | a :: l, b :: m, h1, h2 => by
    have ih := sameL_rowU (l := l) (m := m) (fun u hu => h1 u (List.mem_cons_of_mem _ hu)) (fun u hu => h2 u (List.mem_cons_of_mem _ hu))
    have ea := bare_of8 (h1 a (List.mem_cons_self ..))
    have eb := bare_of8 (h2 b (List.mem_cons_self ..))
    have hab : sameU a b = true ↔ (a.nm.data.toList, a.hs.data.toList) = (b.nm.data.toList, b.hs.data.toList) := by
      constructor
      · intro h
        unfold sameU at h
        simp only [Bool.and_eq_true, decide_eq_true_eq] at h
        rw [h.1.1.1.1, h.1.1.1.2]
      · intro h
        rw [ea, eb, h]
        simp [sameU, bare7]
    show (sameU a b && sameL l m) = true ↔ (a.nm.data.toList, a.hs.data.toList) :: rowU l = (b.nm.data.toList, b.hs.data.toList) :: rowU m
    rw [Bool.and_eq_true, hab, ih, List.cons.injEq]
end Go.Proofs.YtoeepbmbfambcaaGreatDoor

namespace Go.Proofs.YtoeepbmbfambcaaGreatDoor
open Go.RowKit Go.Maps Go.Sort Go.Shelf

set_option maxRecDepth 100000 in
set_option maxHeartbeats 2000000 in
theorem rusers8_calls (A : Option Addr) (c n : Nat) (l : List Us) (w : World) (hl : n = l.length) (hn : n ≤ 12) (hr : RdU7 w A l) (ho : ∀ u ∈ l, u.Ok w) (hc : ∀ u ∈ l, chk6 1 u = 0) :
    Calls Tryz.prog 30 #[.int .i64 1, .slice A n c] w fun e w' => e = .returned (.string (mk6 (le n 2 ++ l.flatMap (userB 1)))) ∧ Below w.heap.size w w' := by
  have HNM : Hid (∀ W, Calls Tryz.prog 50 #[.int .u64 (n : Int), .int .i64 2] W (Says (le n 2) W)) := fun W => num_calls n 2 W (by omega) (by omega)
  have HR := Lib.hid hr
  have HL := Lib.hid hl
  have HO := Lib.hid ho
  have HC := Lib.hid hc
  have HB0 := Lib.hid (Below.refl w.heap.size w)
  clear hr hl ho hc
  obtain ⟨out, hout⟩ : ∃ out, out = (⟨(le n 2 ++ l.flatMap (userB 1)).toArray⟩ : ByteArray) := ⟨_, rfl⟩
  have HOUT := Lib.hid hout
  rw [show mk6 (le n 2 ++ l.flatMap (userB 1)) = out from hout.symm]
  clear hout
  go_enter Tryz.func30, Tryz.ntmps30
  go_wp2_with fail
  with_reducible refine (HNM.out w).mono ?_
  rintro e w1 ⟨rfl, ht⟩
  have HB1 := Lib.hid (ht.below (fun _ f => f.elim))
  clear ht HNM HB0
  go_wp2
  go_loopg [5, 7, 14] n (fun gg s5 _ s14 wr => ∃ (k : Nat) (t : ByteArray), k ≤ n ∧ n - k ≤ gg ∧ s14 = .int .i64 k ∧ s5 = .string t ∧ Hid (t = ⟨(le n 2 ++ (l.take k).flatMap (userB 1)).toArray⟩ ∧ ((l.take k).flatMap (userB 1)).length ≤ 1000 * k) ∧ Hid (Below w.heap.size w wr))
  case atStart => exact ⟨0, _, Nat.zero_le _, by omega, rfl, rfl, ⟨by rw [List.take_zero, List.flatMap_nil, List.append_nil], by simp⟩, HB1.out⟩
  case round =>
    clear HB1
    obtain ⟨k, t, hk, hg, rfl, rfl, HT, HW⟩ := hrel
    by_cases hlt : k < n
    · have hltz : (k : Int) < (n : Int) := by omega
      have hkl : k < l.length := HL.out ▸ hlt
      obtain ⟨b, off, rfl, hb, hc⟩ := (HR.out.later HW.out) (by intro e; rw [e] at hkl; exact absurd hkl (Nat.not_lt_zero _))
      have c0 : wr.cell? ⟨b, off + k * 5, none⟩ = some (.string l[k].nm) := hc k hkl 0 _ rfl
      have c1 : wr.cell? ⟨b, off + k * 5 + 1, none⟩ = some (.string l[k].hs) := hc k hkl 1 _ rfl
      have c2 : wr.cell? ⟨b, off + k * 5 + 2, none⟩ = some (.string l[k].ml) := hc k hkl 2 _ rfl
      have c3 : wr.cell? ⟨b, off + k * 5 + 3, none⟩ = some (.bool l[k].dis) := hc k hkl 3 _ rfl
      have c4 : wr.cell? ⟨b, off + k * 5 + 4, none⟩ = some (.slice l[k].ga l[k].gs.length l[k].gc) := hc k hkl 4 _ rfl
      have hb1 := below_next HW.out (below_alloc (Below.refl wr.heap.size wr) (.cells #[.string l[k].nm, .string l[k].hs, .string l[k].ml, .bool l[k].dis, .slice l[k].ga l[k].gs.length l[k].gc] 43))
      have hch := HC.out _ (List.getElem_mem hkl)
      have hli := (chk6_little hch).1
      have HX : Hid (Calls Tryz.prog 51 #[.int .i64 1, .agg #[.string l[k].nm, .string l[k].hs, .string l[k].ml, .bool l[k].dis, .slice l[k].ga l[k].gs.length l[k].gc]] (wr.alloc (.cells #[.string l[k].nm, .string l[k].hs, .string l[k].ml, .bool l[k].dis, .slice l[k].ga l[k].gs.length l[k].gc] 43)) fun e w' => e = .returned (.string (mk6 (userB 1 l[k]))) ∧ Below (wr.alloc (.cells #[.string l[k].nm, .string l[k].hs, .string l[k].ml, .bool l[k].dis, .slice l[k].ga l[k].gs.length l[k].gc] 43)).heap.size (wr.alloc (.cells #[.string l[k].nm, .string l[k].hs, .string l[k].ml, .bool l[k].dis, .slice l[k].ga l[k].gs.length l[k].gc] 43)) w') := rtext6_calls 1 l[k] _ ((HO.out _ (List.getElem_mem hkl)).below hb1) hli
      have HB2 := Lib.hid hb1
      have hub : (userB 1 l[k]).length ≤ 1000 := userB_length hli
      obtain ⟨t2, ht2⟩ : ∃ t2, t2 = (⟨(le n 2 ++ (l.take (k + 1)).flatMap (userB 1)).toArray⟩ : ByteArray) := ⟨_, rfl⟩
      have htk : (l.take (k + 1)).flatMap (userB 1) = (l.take k).flatMap (userB 1) ++ userB 1 l[k] := by
        rw [List.take_succ_eq_append_getElem hkl, List.flatMap_append, List.flatMap_singleton]
      have HA : Hid (∀ W, (Op.stringOp .add t (mk6 (userB 1 l[k]))).run Tryz.prog W = .ok (.string t2) W) := fun W => by
        have := add_str (P := Tryz.prog) W (le n 2 ++ (l.take k).flatMap (userB 1)) (userB 1 l[k]) (by have := HT.out.2; rw [List.length_append, le_length]; omega)
        rw [List.append_assoc, ← htk, ← ht2] at this
        rw [HT.out.1]
        exact this
      have HT2 : Hid (t2 = ⟨(le n 2 ++ (l.take (k + 1)).flatMap (userB 1)).toArray⟩ ∧ ((l.take (k + 1)).flatMap (userB 1)).length ≤ 1000 * (k + 1)) := ⟨ht2, by have := HT.out.2; rw [htk, List.length_append]; omega⟩
      clear hc hb hb1 hch hli hub ht2 htk HT
      generalize mk6 (userB 1 l[k]) = ux at *
      generalize l[k].nm = nm at *
      generalize l[k].hs = hs at *
      generalize l[k].ml = ml at *
      generalize l[k].dis = dis at *
      generalize l[k].ga = ga at *
      generalize l[k].gs.length = gl at *
      generalize l[k].gc = gc at *
      go_wp2_with (go_at_call 51; (with_reducible refine HX.out.mono ?_); rintro e w4 ⟨rfl, hb⟩; have HB4 := Lib.hid (below_next HB2.out hb); have ha := HA.out w4; clear hb)
      go_roundg (n - (k + 1))
      case measure => omega
      case rel => exact ⟨k + 1, t2, by omega, by omega, by go_num, rfl, HT2, HB4⟩
    · have hltz : ¬ (k : Int) < (n : Int) := by omega
      obtain rfl : k = n := by omega
      obtain rfl : t = out := by
        have := HT.out.1
        rw [List.take_of_length_le (by have := HL.out; omega)] at this
        rw [this, HOUT.out]
      clear HT HOUT
      go_wp2
      go_ret
      exact ⟨rfl, HW.out⟩

set_option maxRecDepth 100000 in
/-- The document's Text of users that may be is what the code writes. -/
theorem rtext8_calls (A : Option Addr) (c n : Nat) (l : List Us) (w : World) (hl : n = l.length) (hr : RdU7 w A l) (ho : ∀ u ∈ l, u.Ok w) (hz : ofE l = 0) :
    Calls Tryz.prog 11 #[.slice A n c] w fun e w' => e = .returned (.string (mk6 (shotR (rowU l)))) ∧ Below w.heap.size w w' := by
  obtain ⟨h1, _, h3, _⟩ := ofE_zero hz
  have HU := Lib.hid (rusers8_calls A c n l w hl (by omega) hr ho h1)
  have hlen := pairsB_length8 (may8 hz).all
  have hfew := (may8 hz).few
  have HA : Hid (∀ W, (Op.stringOp .add ⟨#[1]⟩ (mk6 (le n 2 ++ l.flatMap (userB 1)))).run Tryz.prog W = .ok (.string (mk6 (shotR (rowU l)))) W) := fun W => by
    have := add_str (P := Tryz.prog) W (le 1 1) (le n 2 ++ (rowU l).flatMap pairB) (by rw [List.length_append, le_length, le_length]; omega)
    rw [← usersB_of h1] at this
    have e : mk6 (shotR (rowU l)) = ⟨(le 1 1 ++ (le n 2 ++ l.flatMap (userB 1))).toArray⟩ := by
      unfold shotR
      rw [usersB_of h1, rowU_length, ← hl]
      rfl
    rw [e]
    exact this
  clear hr ho hz h1 h3 hlen hfew hl
  generalize mk6 (shotR (rowU l)) = out at *
  generalize mk6 (le n 2 ++ l.flatMap (userB 1)) = us at *
  go_enter Tryz.func11, Tryz.ntmps11
  go_wp2_with fail
  with_reducible refine HU.out.mono ?_
  rintro e w1 ⟨rfl, hb⟩
  have HB := Lib.hid hb
  have ha := HA.out w1
  clear hb HU HA
  go_wp2
  go_ret
  exact ⟨rfl, HB.out⟩
end Go.Proofs.YtoeepbmbfambcaaGreatDoor

namespace Go.Proofs.YtoeepbmbfambcaaGreatDoor
open Go.RowKit Go.Maps Go.Sort Go.Shelf

/-- What each operation makes. -/
def YBy8 (A3 A1 : Option Addr) (m c3 n1 c1 B4 : Nat) (x1 : List UInt8) (L : Row7) : Nat → Value → World → Prop
  | 0, v, _ => v = .slice A3 m c3
  | 1, v, _ => v = .string ⟨x1.toArray⟩
  | 2, v, _ => v = .slice A1 n1 c1
  | 3, v, _ => v = .string ⟨x1.toArray⟩
  | 4, v, _ => v = .bool true
  | 5, v, _ => v = .bool true
  | 6, v, _ => v = .slice A3 m c3
  | 7, v, _ => v = .int .i64 1
  | 8, v, _ => v = .bool true
  | 9, v, _ => v = .bool true
  | 10, v, _ => v = .bool true
  | 11, v, _ => v = .int .i64 0
  | 12, v, _ => v = .bool true
  | 13, v, _ => v = .bool true
  | 14, v, _ => v = .bool true
  | 15, v, _ => v = .pointer (some ⟨B4, 0, none⟩)
  | 16, v, _ => v = .bool true
  | 17, v, _ => v = .bool true
  | 18, v, _ => v = .bool true
  | 19, v, _ => v = .pointer (some ⟨B4, 0, none⟩)
  | 20, v, W => ∃ A c, v = .slice A n1 c ∧ RdU7 W A (L.map bare7)
  | 21, v, _ => v = .slice A1 n1 c1
  | 22, v, _ => v = .bool true
  | 23, v, _ => v = .bool true
  | 24, v, _ => v = .bool true
  | 25, v, _ => v = .slice none 0 0
  | 26, v, _ => v = .int .i64 0
  | 27, v, _ => v = .bool true
  | 28, v, _ => v = .bool true
  | _, v, _ => v = .bool true
theorem YBy8_keep {A3 A1 : Option Addr} {m c3 n1 c1 B4 : Nat} {x1 : List UInt8} {L : Row7} {W W' : World} (hb : Below W.heap.size W W') (j : Nat) (z : Value) (h : YBy8 A3 A1 m c3 n1 c1 B4 x1 L j z W) : YBy8 A3 A1 m c3 n1 c1 B4 x1 L j z W' := by
  match j, h with
  | 0, h => exact h
  | 1, h => exact h
  | 2, h => exact h
  | 3, h => exact h
  | 4, h => exact h
  | 5, h => exact h
  | 6, h => exact h
  | 7, h => exact h
  | 8, h => exact h
  | 9, h => exact h
  | 10, h => exact h
  | 11, h => exact h
  | 12, h => exact h
  | 13, h => exact h
  | 14, h => exact h
  | 15, h => exact h
  | 16, h => exact h
  | 17, h => exact h
  | 18, h => exact h
  | 19, h => exact h
  | 20, h => exact (by obtain ⟨A, c, e, hr⟩ := h; exact ⟨A, c, e, hr.later hb⟩)
  | 21, h => exact h
  | 22, h => exact h
  | 23, h => exact h
  | 24, h => exact h
  | 25, h => exact h
  | 26, h => exact h
  | 27, h => exact h
  | 28, h => exact h
  | _ + 29, h => exact h
theorem Own7.told8 {w W : World} {B : Nat} {l : List Us} (h : Own7 w W B (rowU l)) (ho : ofE l = 0) (hm : Len5 W) : Calls Tryz.prog 9 #[.pointer (some ⟨B, 0, none⟩)] W (Told6 W (shotR (rowU l))) := by
  obtain ⟨p, hd, _⟩ := h
  exact bytes8_calls B p (rowU l) W hd (may8 ho).all hm

set_option maxRecDepth 100000 in
set_option maxHeartbeats 4000000 in
theorem bytes8_walk (A1 : Option Addr) (c1 n1 : Nat) (l1 : List Us) (w : World) (hl1 : n1 = l1.length) (hn1 : n1 ≤ 9223372036854775807) (hr1 : RdU7 w A1 l1) (ho1 : ∀ u ∈ l1, u.Ok w) (hm : Len5 w) :
    Calls Tryz.prog 3 #[.slice A1 n1 c1] w (Tells5 true w) := by
  have hnot : ∀ (x : Bool) (w : World), (Op.unary .not (.bool x)).run Tryz.prog w = .ok (.bool (!x)) w := fun _ _ => rfl
  have HV : Hid (Calls Tryz.prog 7 #[] w (Tells5 true w)) := lives8_calls w hm
  have HM1 : Hid (∀ W, Below w.heap.size w W → Calls Tryz.prog 8 #[.slice A1 n1 c1] W (Made8 W l1)) := fun W hb => made8_calls A1 c1 n1 l1 W hl1 hn1 (hr1.later hb) (fun u hu => (ho1 u hu).below hb) (hm.later hb)
  have HTX : Hid (ofE l1 = 0 → ∀ W, Below w.heap.size w W → Calls Tryz.prog 11 #[.slice A1 n1 c1] W fun e w' => e = .returned (.string (mk6 (shotR (rowU l1)))) ∧ Below W.heap.size W w') := fun hz W hb => rtext8_calls A1 c1 n1 l1 W hl1 (hr1.later hb) (fun u hu => (ho1 u hu).below hb) hz
  have HSU : Hid (ofE l1 = 0 → ∀ A c W, Below w.heap.size w W → RdU7 W A ((rowU l1).map bare7) → Calls Tryz.prog 13 #[.slice A n1 c, .slice A1 n1 c1] W (Tells5 true W)) := fun hz A c W hb hr => by
    obtain ⟨h1, _, h3, h4⟩ := ofE_zero hz
    refine sameusersV_calls A A1 c c1 n1 ((rowU l1).map bare7) l1 W (by rw [List.length_map, rowU_length]; exact hl1) hl1 (by omega) hr (hr1.later hb) (fun u hu => ?_) (fun u hu => (ho1 u hu).below hb) (fun k i1 i2 => ?_)
    · obtain ⟨q, hq, rfl⟩ := List.mem_map.1 hu
      exact bare7_ok (pair_little8 ((may8 hz).all q hq))
    · have := bare7_same (h1 _ (List.getElem_mem i2))
      simpa [rowU] using this
  have HLN : Hid (n1 = (rowU l1).length) := by show _ = _; rw [rowU_length]; exact hl1
  have HMM := Lib.hid hm
  clear hl1 hn1 hr1 ho1 hm
  go_enter Tryz.func3, Tryz.ntmps3
  go_wp2_with fail
  with_reducible refine HV.out.mono ?_
  rintro e w1 ⟨rfl, hb1⟩
  have HB1 := Lib.hid hb1
  clear hb1 HV
  go_wp2_with fail
  with_reducible refine (HM1.out w1 HB1.out).mono ?_
  rintro e w2 h1
  clear HM1
  rcases h1 with ⟨rfl, hb⟩ | ⟨z1, B1, rfl, hown1⟩
  · have HB2 := Lib.hid (below_next HB1.out hb)
    clear hb
    go_wp2
    go_ret
    exact ⟨rfl, HB2.out⟩
  have HB2 := Lib.hid (below_next HB1.out hown1.below)
  have HY := Lib.hid (hown1.told8 z1 (HMM.out.later HB2.out))
  have hmy := may8 z1
  have HRB := Lib.hid (readS_put hmy.all hmy.of hmy.few)
  have hlen := shotR_length hmy.all hmy.few
  have HS1 : Hid (schema8 (shotR (rowU l1)) = 1) := rfl
  have HTX2 := Lib.hid (HTX.out z1)
  have HSU2 := Lib.hid (HSU.out z1)
  clear hown1 z1 hmy HTX HSU HB1
  generalize rowU l1 = L at *
  generalize shotR L = x1 at *
  go_wp2_with fail
  with_reducible refine HY.out.mono ?_
  rintro e w3 ⟨v3, rfl, ho3, _, hb⟩
  have HB3 := Lib.hid (below_next HB2.out hb)
  have HR3 := Lib.hid (Rd.of_own ho3)
  obtain ⟨A3, c3, rfl⟩ := owns_shape ho3
  have HRD := Lib.hid (read8_calls _ x1 w3 HR3.out (by omega) (HMM.out.later HB3.out))
  rw [HRB.out] at HRD
  clear hb ho3 HY HB2 HRB
  generalize hlx : x1.length = m at *
  go_wp2_with fail
  with_reducible refine HRD.out.mono ?_
  rintro e w4 h4
  clear HRD
  rcases h4 with ⟨hne, _⟩ | ⟨_, B4, rfl, hown4⟩
  · exact absurd rfl hne
  have HB4 := Lib.hid (below_next HB3.out hown4.below)
  have HR4 := Lib.hid (HR3.out.still (Turns.of_below hown4.below _))
  have HO4 : Hid (Own7 w3 w4 B4 L) := hown4
  clear hown4 HR3 HB3
  have HTX3 : Hid (∀ W, Below w4.heap.size w4 W → Calls Tryz.prog 11 #[.slice A1 n1 c1] W fun e w' => e = .returned (.string ⟨x1.toArray⟩) ∧ Below W.heap.size W w') := fun W hb => HTX2.out W (below_next HB4.out hb)
  have HSC4 : Hid (∀ W, Below w4.heap.size w4 W → Calls Tryz.prog 12 #[.slice A3 m c3] W fun e w' => e = .returned (.int .i64 1) ∧ W = w') := fun W hb => by
    have := sch8_calls _ x1 W (HR4.out.still (Turns.of_below hb _))
    rwa [HS1.out] at this
  have HAL : Hid (∀ W, Below w4.heap.size w4 W → Calls Tryz.prog 14 #[.pointer (some ⟨B4, 0, none⟩)] W fun e w' => ∃ A c, e = .returned (.slice A n1 c) ∧ RdU7 w' A (L.map bare7) ∧ Below W.heap.size W w') := fun W hb => (HO4.out.later hb).allu.mono fun e w' ⟨v, he, hu, hb2⟩ => by
    have hus := Us7.of_users hu
    obtain ⟨A, c, e1, _⟩ := id hus
    rw [e1, ← HLN.out] at hus he
    exact ⟨A, c, he, hus.rd.2, hb2⟩
  have HSU3 : Hid (∀ A c W, Below w4.heap.size w4 W → RdU7 W A (L.map bare7) → Calls Tryz.prog 13 #[.slice A n1 c, .slice A1 n1 c1] W (Tells5 true W)) := fun A c W hb hr => HSU2.out A c W (below_next HB4.out hb) hr
  clear HTX2 HSU2 HS1 HMM HO4 hlx hlen
  go_wp2_with fail
  refine wp_region_inv (by kernel_rfl) (fun W => Below w4.heap.size w4 W) (YBy8 A3 A1 m c3 n1 c1 B4 x1 L) ?F ?hF (by kernel_rfl) (by kernel_rfl) (below_drew (Below.refl _ _)) ?step ?fin
  case hF =>
    intro x
    simp only [List.map_cons, List.map_nil, putL, Act.put, List.setIfInBounds_toArray, List.set_cons_zero, List.set_cons_succ, Nat.zero_add, Nat.reduceAdd]
    exact rfl
  case step =>
    refine ⟨?_, ?_, ?_, ?_, ?_, ?_, ?_, ?_, ?_, ?_, ?_, ?_, ?_, ?_, ?_, ?_, ?_, ?_, ?_, ?_, ?_, ?_, ?_, ?_, ?_, ?_, ?_, ?_, ?_, ?_, trivial⟩
    all_goals intro x W hW hdep K hK
    · clear hdep
      go_simp
      exact hK _ _ rfl hW (fun _ _ h => h)
    · have h0 : x 0 = _ := hdep 0 rfl
      have hs := (HR4.out.still (Turns.of_below hW _)).string (P := Tryz.prog) (src := 27) (dst := 9) Tryz.underlying27 Tryz.underlying5 Tryz.underlying9
      clear hdep
      simp only [h0] at hK
      go_simp
      exact hK _ _ rfl hW (fun _ _ h => h)
    · clear hdep
      go_simp
      exact hK _ _ rfl hW (fun _ _ h => h)
    · have h2 : x 2 = _ := hdep 2 rfl
      clear hdep
      simp only [h2] at hK
      go_simp
      refine (HTX3.out W hW).mono ?_
      rintro e W' ⟨rfl, hb⟩
      exact hK _ _ rfl (below_next hW hb) (fun j z h => YBy8_keep hb j z h)
    · have h1 : x 1 = _ := hdep 1 rfl
      have h3 : x 3 = _ := hdep 3 rfl
      clear hdep
      simp only [h1, h3] at hK
      go_simp
      exact hK _ _ rfl hW (fun _ _ h => h)
    · have h4 : x 4 = _ := hdep 4 rfl
      clear hdep
      simp only [h4] at hK
      go_simp
      exact hK _ _ rfl hW (fun _ _ h => h)
    · have h5 : x 5 = _ := hdep 5 rfl
      clear hdep
      simp only [h5] at hK
      go_simp
      exact hK _ _ rfl hW (fun _ _ h => h)
    · have h5 : x 5 = _ := hdep 5 rfl
      have h6 : x 6 = _ := hdep 6 rfl
      clear hdep
      simp only [h5, h6] at hK
      go_simp
      refine (HSC4.out W hW).mono ?_
      rintro e W' ⟨rfl, rfl⟩
      exact hK _ _ rfl hW (fun _ _ h => h)
    · have h5 : x 5 = _ := hdep 5 rfl
      have h7 : x 7 = _ := hdep 7 rfl
      clear hdep
      simp only [h5, h7] at hK
      go_simp
      exact hK _ _ rfl hW (fun _ _ h => h)
    · have h5 : x 5 = _ := hdep 5 rfl
      have h8 : x 8 = _ := hdep 8 rfl
      clear hdep
      simp only [h5, h8] at hK
      go_simp
      exact hK _ _ rfl hW (fun _ _ h => h)
    · have h9 : x 9 = _ := hdep 9 rfl
      clear hdep
      simp only [h9] at hK
      go_simp
      exact hK _ _ rfl hW (fun _ _ h => h)
    · have h10 : x 10 = _ := hdep 10 rfl
      clear hdep
      simp only [h10] at hK
      go_simp
      exact hK _ _ rfl hW (fun _ _ h => h)
    · have h10 : x 10 = _ := hdep 10 rfl
      have h11 : x 11 = _ := hdep 11 rfl
      clear hdep
      simp only [h10, h11] at hK
      go_simp
      exact hK _ _ rfl hW (fun _ _ h => h)
    · have h10 : x 10 = _ := hdep 10 rfl
      have h12 : x 12 = _ := hdep 12 rfl
      clear hdep
      simp only [h10, h12] at hK
      go_simp
      exact hK _ _ rfl hW (fun _ _ h => h)
    · have h13 : x 13 = _ := hdep 13 rfl
      clear hdep
      simp only [h13] at hK
      go_simp
      exact hK _ _ rfl hW (fun _ _ h => h)
    · have h14 : x 14 = _ := hdep 14 rfl
      clear hdep
      simp only [h14] at hK
      go_simp
      exact hK _ _ rfl hW (fun _ _ h => h)
    · have h14 : x 14 = _ := hdep 14 rfl
      have h15 : x 15 = _ := hdep 15 rfl
      clear hdep
      simp only [h14, h15] at hK
      go_simp
      exact hK _ _ rfl hW (fun _ _ h => h)
    · have h14 : x 14 = _ := hdep 14 rfl
      have h16 : x 16 = _ := hdep 16 rfl
      clear hdep
      simp only [h14, h16] at hK
      go_simp
      exact hK _ _ rfl hW (fun _ _ h => h)
    · have h17 : x 17 = _ := hdep 17 rfl
      clear hdep
      simp only [h17] at hK
      go_simp
      exact hK _ _ rfl hW (fun _ _ h => h)
    · have h18 : x 18 = _ := hdep 18 rfl
      clear hdep
      simp only [h18] at hK
      go_simp
      exact hK _ _ rfl hW (fun _ _ h => h)
    · have h18 : x 18 = _ := hdep 18 rfl
      have h19 : x 19 = _ := hdep 19 rfl
      clear hdep
      simp only [h18, h19] at hK
      go_simp
      refine (HAL.out W hW).mono ?_
      rintro e W' ⟨A, c, rfl, hr, hb⟩
      exact hK _ _ ⟨A, c, rfl, hr⟩ (below_next hW hb) (fun j z h => YBy8_keep hb j z h)
    · have h18 : x 18 = _ := hdep 18 rfl
      clear hdep
      simp only [h18] at hK
      go_simp
      exact hK _ _ rfl hW (fun _ _ h => h)
    · have h18 : x 18 = _ := hdep 18 rfl
      have h21 : x 21 = _ := hdep 21 rfl
      obtain ⟨A20, c20, h20, r20⟩ : ∃ A c, x 20 = .slice A n1 c ∧ RdU7 W A (L.map bare7) := hdep 20 rfl
      simp only [h20] at hK
      clear hdep
      simp only [h18, h21] at hK
      go_simp
      refine (HSU3.out A20 c20 W hW r20).mono ?_
      rintro e W' ⟨rfl, hb⟩
      exact hK _ _ rfl (below_next hW hb) (fun j z h => YBy8_keep hb j z h)
    · have h18 : x 18 = _ := hdep 18 rfl
      have h22 : x 22 = _ := hdep 22 rfl
      clear hdep
      simp only [h18, h22] at hK
      go_simp
      exact hK _ _ rfl hW (fun _ _ h => h)
    · have h23 : x 23 = _ := hdep 23 rfl
      clear hdep
      simp only [h23] at hK
      go_simp
      exact hK _ _ rfl hW (fun _ _ h => h)
    · have h24 : x 24 = _ := hdep 24 rfl
      clear hdep
      simp only [h24] at hK
      go_simp
      refine (bytes80_calls W).mono ?_
      rintro e W' ⟨rfl, rfl⟩
      exact hK _ _ rfl hW (fun _ _ h => h)
    · have h24 : x 24 = _ := hdep 24 rfl
      have h25 : x 25 = _ := hdep 25 rfl
      clear hdep
      simp only [h24, h25] at hK
      go_simp
      exact hK _ _ rfl hW (fun _ _ h => h)
    · have h24 : x 24 = _ := hdep 24 rfl
      have h26 : x 26 = _ := hdep 26 rfl
      clear hdep
      simp only [h24, h26] at hK
      go_simp
      exact hK _ _ rfl hW (fun _ _ h => h)
    · have h24 : x 24 = _ := hdep 24 rfl
      have h27 : x 27 = _ := hdep 27 rfl
      clear hdep
      simp only [h24, h27] at hK
      go_simp
      exact hK _ _ rfl hW (fun _ _ h => h)
    · have h28 : x 28 = _ := hdep 28 rfl
      clear hdep
      simp only [h28] at hK
      go_simp
      exact hK _ _ rfl hW (fun _ _ h => h)
  case fin =>
    intro x W hW hY
    have h29 : x 29 = .bool true := hY 29 (by decide)
    have HF := Lib.hid (below_next HB4.out hW)
    clear hY hW
    rw [h29]
    go_wp2
    go_ret
    exact ⟨rfl, HF.out⟩
end Go.Proofs.YtoeepbmbfambcaaGreatDoor

namespace Go.Proofs.YtoeepbmbfambcaaGreatDoor.shotBytes
open Go.ChangeShapes Go.WideShapes Go.ChangeAt Go.RowKit
set_option linter.unusedVariables false

theorem own : ownKnob Tryz.prog.godebug = none := by kernel_rfl
theorem laidOut : laidOutB Tryz.prog = true := by kernel_rfl

theorem walk (w : World) (hm : Len5 w) (a0 : Option Addr) (len0 cap0 : Nat) (l0 : List Us) (s0 : IsUsers w a0 len0 l0) :
    Calls Tryz.prog 3 #[.slice a0 len0 cap0] w fun e w' => e = .returned (.bool true) ∧ Below w.heap.size w w' := by
  obtain ⟨h1, h2, h3, h4⟩ := s0
  exact bytes8_walk a0 cap0 len0 l0 w h1 (by omega) h3 h4 hm

set_option maxRecDepth 100000 in
theorem lifted (os : Os) (started : os.Started) (H : Type) (enc : TypeId × Value → H) :
    ReturnsInHanded {} Tryz.checked os 3 .any (fun w args => (Rows.shotBytesSpec.pre enc Tryz.prog Tryz.f3 Rows.shotBytesRow.domain false w args ∧ laidMetH Tryz.prog Rows.shotBytesRow.laid w) ∧ sizedMet enc Tryz.prog Tryz.f3 (OpenSpec.ofChange Rows.shotBytesSpec) false w args)
      (Rows.shotBytesSpec.post enc Tryz.prog Tryz.f3 false true false false) := by
  refine returns_laid6 (C := Tryz.checked) (X := fun w _ => laidMetH Tryz.prog Rows.shotBytesRow.laid w) own started (by kernel_rfl) Tryz.func3
    (ChangeSpec.witness_shaped (enc := enc) (C := Tryz.checked) (os := os) (X := fun w _ => laidMetH Tryz.prog Rows.shotBytesRow.laid w) false (World.laidAll Tryz.prog os Rows.shotBytesRow.laid) #[.slice none 0 0] 8 (World.laidAll_os _ _ _)
      (World.shaped_of_ZipB (by kernel_rfl) (by kernel_rfl)) (by kernel_rfl) (by kernel_rfl) (by kernel_rfl)
      (by rw [MakeChecks.laidMetH_plain _ _ _ (by kernel_rfl)]; exact laidMet_laidAll _ (by kernel_rfl) (by kernel_rfl))) ?_
  intro W base args ds gs before hval0 hW hwt0 hsh
  have hval : ∀ (j : Nat) t v, Tryz.f3.params[j]? = some t → args[j]? = some v → Value.okWide Tryz.prog W .any base t v := hval0
  have hW' := hW
  obtain ⟨p, q, hA0, hV, rfl, hfz, hnd⟩ := hW
  have hA : DataW.TrodAll enc Tryz.prog W 0 (fun _ => true) true Tryz.f3.params.toList args.toList ds p := hA0
  have hwt : (DataW.weightsEach Tryz.prog (Tryz.f3.params.toList ++ (OpenSpec.ofChange Rows.shotBytesSpec).bare.plain.varTypes Tryz.prog) (ds ++ gs)).all (· ≤ reachBytes) = true := hwt0
  rw [Tryz.params3] at hA hval hwt
  obtain ⟨v0, vs0, d0, ds0, p0, q0, hargs, rfl, rfl, h0, r0⟩ := trodAll_cons hA
  obtain ⟨rfl, rfl, rfl⟩ := trodAll_nil r0
  obtain rfl : args = #[v0] := by cases args; simp_all
  obtain ⟨rfl, rfl⟩ := trodVars_none hV
  obtain ⟨a0, len0, cap0, rfl⟩ := okWide_slice Tryz.underlying22 (hval 0 22 v0 rfl rfl)
  have lt0 : ∀ x ∈ p0, x.block < W.heap.size := by obtain ⟨m, hm⟩ := h0; exact DataW.trod_lt m _ _ _ hm
  obtain ⟨l0, s0⟩ := users_of h0 (fun n hn => by simpa using List.all_eq_true.1 hwt n (DataW.weights_mem_each (j := 0) rfl rfl n hn))
  clear hA0 hval0 hwt0
  refine (walk W (len5_of hsh) a0 len0 cap0 l0 s0).mono fun e W' ⟨he, bel⟩ => ?_
  subst he
  exact ⟨_, rfl, _, _, _, [], _, [], hW', trodAll_mk1 (shut_bool Tryz.underlying4 _), (trodAll_cons_mk (Below.trod laidOut (by kernel_rfl) (of_decide_eq_true (by kernel_rfl)) h0 bel lt0) trodAll_mk0), rfl, bel.frame _, fun h => by cases h⟩

theorem row_holds : Rows.ShotBytesSaid :=
  OpenClaim.holds_of_wide 3 Tryz.f3 rfl rfl rfl rfl rfl rfl rfl ⟨rfl, rfl, rfl, rfl, rfl⟩ rfl rfl rfl rfl rfl (by kernel_rfl) Tryz.func3 (by kernel_rfl)
    (of_decide_eq_true (by kernel_rfl)) (by unfold Func.isWrapper; first | (rw [if_pos (by decide +kernel)]; kernel_rfl) | (rw [if_neg (by decide +kernel)]; exact ⟨rfl, rfl⟩))
    (fun os started H enc _ => lifted os started H enc)

theorem proved : Rows.ShotBytesCardSaid :=
  Claim7.holds_tied_plain_at .later [] Rows.shotBytesCard.laidKinds true Rows.shotBytesCard.stood.harness false row_holds (fun _ h => by cases h) (by kernel_rfl) (fun _ h => by cases h) shotBytes_row_tie rfl ⟨rfl, rfl⟩ (by kernel_rfl) rfl
    (fun f fn hf hfn => by
      obtain rfl : f = 3 := Option.some.inj ((show Tryz.prog.funcNamed Rows.shotBytesRow.func = some 3 by kernel_rfl).symm.trans hf) |>.symm
      obtain rfl : fn = Tryz.f3 := (Option.some.inj (Tryz.func3.symm.trans hfn)).symm
      exact ⟨by kernel_rfl, fun j t ht => by
        rw [Tryz.params3] at ht
        have hm : t ∈ [22] := by simpa using Array.mem_of_getElem? ht
        have hall : ([22].all fun u => !Tryz.prog.wantsStandIn u) = true := by kernel_rfl
        exact (show Tryz.prog.wantsStandIn t = false by simpa using List.all_eq_true.1 hall t hm)⟩)
    (by kernel_rfl)
end Go.Proofs.YtoeepbmbfambcaaGreatDoor.shotBytes

/-
  What this law alone needs, the law walked, and its statement.
  Conditions: each theorem's own.
-/
import Derived.Test.YtoeepbmbfambcaaGreatDoorRows
import Derived.Test.YtoeepbmbfambcaaGreatDoorCards
import Derived.Test.YtoeepbmbfambcaaGreatDoorTie
import Derived.Test.YtoeepbmbfambcaaGreatDoorShotAllA
import Derived.Test.YtoeepbmbfambcaaGreatDoorShotAllB
import Derived.Test.YtoeepbmbfambcaaGreatDoorShotAllC
import Derived.Test.YtoeepbmbfambcaaGreatDoorShotAllD
import Derived.Test.YtoeepbmbfambcaaGreatDoorShotAllE
namespace Go.Proofs.YtoeepbmbfambcaaGreatDoor
open Go.RowKit Go.Maps Go.Sort Go.Shelf

/-- A directory of the users is told, or that there is none. -/
def Made8 (w : World) (l : List Us) (e : Ending) (w' : World) : Prop :=
  (e = .returned (.tuple #[.pointer none, .bool false]) ∧ Below w.heap.size w w') ∨ (ofE l = 0 ∧ ∃ B, e = .returned (.tuple #[.pointer (some ⟨B, 0, none⟩), .bool true]) ∧ Own7 w w' B (rowU l))

set_option maxRecDepth 100000 in
set_option maxHeartbeats 4000000 in
theorem made8_calls (A : Option Addr) (c n : Nat) (l : List Us) (w : World) (hl : n = l.length) (hn : n ≤ 9223372036854775807) (hr : RdU7 w A l) (ho : ∀ u ∈ l, u.Ok w) (hm : Len5 w) :
    Calls Tryz.prog 8 #[.slice A n c] w (Made8 w l) := by
  have hnot : ∀ (x : Bool) (w : World), (Op.unary .not (.bool x)).run Tryz.prog w = .ok (.bool (!x)) w := fun _ _ => rfl
  have HR := Lib.hid hr
  have HL := Lib.hid hl
  have HO := Lib.hid ho
  have HM := Lib.hid hm
  have HB0 := Lib.hid (Below.refl w.heap.size w)
  clear hr hl ho hm
  go_enter Tryz.func8, Tryz.ntmps8
  by_cases h30 : 30 < n
  · have z30 : (n : Int) > 30 := by omega
    go_wp2
    go_ret2
    exact .inl ⟨rfl, HB0.out⟩
  have z30 : ¬ (n : Int) > 30 := by omega
  go_wp2
  go_loopg [5, 13] n (fun gg _ s13 wr => ∃ k : Nat, k ≤ n ∧ n - k ≤ gg ∧ s13 = .int .i64 k ∧ Hid (Below w.heap.size w wr) ∧ Hid (∀ j (h : j < l.length), j < k → fewU l[j] = true))
  case atStart => exact ⟨0, Nat.zero_le _, by omega, rfl, HB0.out, fun j _ hj => absurd hj (Nat.not_lt_zero _)⟩
  case round =>
    clear HB0
    obtain ⟨k, hk, hg, rfl, HW, A0⟩ := hrel
    by_cases hlt : k < n
    · have hltz : (k : Int) < (n : Int) := by omega
      have hkl : k < l.length := HL.out ▸ hlt
      obtain ⟨b, off, rfl, hb, hc⟩ := (HR.out.later HW.out) (by intro e; rw [e] at hkl; exact absurd hkl (Nat.not_lt_zero _))
      have c0 : wr.cell? ⟨b, off + k * 5, none⟩ = some (.string l[k].nm) := hc k hkl 0 _ rfl
      have c1 : wr.cell? ⟨b, off + k * 5 + 1, none⟩ = some (.string l[k].hs) := hc k hkl 1 _ rfl
      have c2 : wr.cell? ⟨b, off + k * 5 + 2, none⟩ = some (.string l[k].ml) := hc k hkl 2 _ rfl
      have c3 : wr.cell? ⟨b, off + k * 5 + 3, none⟩ = some (.bool l[k].dis) := hc k hkl 3 _ rfl
      have c4 : wr.cell? ⟨b, off + k * 5 + 4, none⟩ = some (.slice l[k].ga l[k].gs.length l[k].gc) := hc k hkl 4 _ rfl
      have hb1 := below_next HW.out (below_alloc (Below.refl wr.heap.size wr) (.cells #[.string l[k].nm, .string l[k].hs, .string l[k].ml, .bool l[k].dis, .slice l[k].ga l[k].gs.length l[k].gc] 43))
      have HC : Hid (Calls Tryz.prog 17 #[.agg #[.string l[k].nm, .string l[k].hs, .string l[k].ml, .bool l[k].dis, .slice l[k].ga l[k].gs.length l[k].gc]] (wr.alloc (.cells #[.string l[k].nm, .string l[k].hs, .string l[k].ml, .bool l[k].dis, .slice l[k].ga l[k].gs.length l[k].gc] 43)) (Tells5 (fewU l[k]) (wr.alloc (.cells #[.string l[k].nm, .string l[k].hs, .string l[k].ml, .bool l[k].dis, .slice l[k].ga l[k].gs.length l[k].gc] 43)))) := few6U_calls l[k] _ ((HO.out _ (List.getElem_mem hkl)).below hb1)
      have HB2 := Lib.hid hb1
      have HX : Hid (fewU l[k] = true → ∀ j (h : j < l.length), j < k + 1 → fewU l[j] = true) := fun hq j h hj => by
        by_cases e : j = k
        · subst e; exact hq
        · exact A0.out j h (by omega)
      clear hc hb hb1 A0
      generalize fewU l[k] = q at *
      generalize l[k].nm = nm at *
      generalize l[k].hs = hs at *
      generalize l[k].ml = ml at *
      generalize l[k].dis = dis at *
      generalize l[k].ga = ga at *
      generalize l[k].gs.length = gl at *
      generalize l[k].gc = gc at *
      cases q with
      | true =>
        have HY := Lib.hid (HX.out rfl)
        clear HX
        go_wp2_with (go_at_call 17; (with_reducible refine HC.out.mono ?_); rintro e w2 ⟨rfl, hb⟩; have HB3 := Lib.hid (below_next HB2.out hb); clear hb)
        go_roundg (n - (k + 1))
        case measure => omega
        case rel => exact ⟨k + 1, by omega, by omega, by go_num, HB3, HY⟩
      | false =>
        clear HX
        go_wp2_with (go_at_call 17; (with_reducible refine HC.out.mono ?_); rintro e w2 ⟨rfl, hb⟩; have HB3 := Lib.hid (below_next HB2.out hb); clear hb)
        go_ret2
        exact .inl ⟨rfl, HB3.out⟩
    · have hltz : ¬ (k : Int) < (n : Int) := by omega
      have HFW : Hid (∀ u ∈ l, fewU u = true) := fun u hu => by
        obtain ⟨j, hj, rfl⟩ := List.getElem_of_mem hu
        exact A0.out j hj (by have := HL.out; omega)
      have HOF := Lib.hid (of7_calls A c n l wr HL.out (by omega) (HR.out.later HW.out) (fun u hu => (HO.out u hu).below HW.out) (HM.out.later HW.out))
      have HRO : Hid (∀ W, Below w.heap.size w W → Calls Tryz.prog 19 #[.slice A n c, .int .i64 1] W (Errs5 (ofE l) W)) := fun W hW => rof7_calls A c n l W HL.out (by omega) (HR.out.later hW) (fun u hu => (HO.out u hu).below hW) (fun u hu => by
        obtain ⟨f1, f2, f3, _, f5⟩ := fewU_facts (HFW.out u hu)
        exact ⟨by omega, by omega, by omega, fun g hg => Nat.le_trans (f5 g hg) (by omega)⟩)
      have HZ : Hid (ofE l = ofE l) := rfl
      clear HFW HM A0 hk hg hlt
      obtain ⟨r, hr⟩ : ∃ r, r = ofE l := ⟨_, rfl⟩
      have HRE := Lib.hid hr
      rw [← hr] at HOF HRO
      clear hr HZ
      go_wp2_with fail
      with_reducible refine HOF.out.mono ?_
      rintro e w3 hcase
      clear HOF
      rcases hcase with ⟨hne, rfl, hb⟩ | ⟨h0, B, rfl, hown⟩
      · have HB3 := Lib.hid (below_next HW.out hb)
        have hx1 : (r == 0) = false := by simpa using hne
        clear hb HRO HW HRE hne
        go_wp2
        go_ret2
        exact .inl ⟨rfl, HB3.out⟩
      · subst h0
        have HB3 := Lib.hid (below_next HW.out hown.below)
        have HRO2 := Lib.hid (HRO.out w3 HB3.out)
        have HF : Hid (∀ w4, Below w3.heap.size w3 w4 → Made8 w l (.returned (.tuple #[.pointer (some ⟨B, 0, none⟩), .bool true])) w4) := fun w4 hb => by
          obtain ⟨p, q0, q1, q2, q3⟩ := hown
          exact .inr ⟨HRE.out.symm, B, rfl, Own7.later ⟨p, q0, Nat.le_trans HW.out.size q1, fun b hb' => Nat.le_trans HW.out.size (q2 b hb'), below_next HW.out q3⟩ hb⟩
        clear hown HRO HW HRE HB3
        go_wp2_with fail
        with_reducible refine HRO2.out.mono ?_
        rintro e w4 ⟨rfl, hb⟩
        have HF2 := Lib.hid (HF.out w4 hb)
        clear hb HRO2 HF
        go_wp2
        go_ret2
        exact HF2.out

/-! ### Rows of users that are the same -/
def sameL : List Us → List Us → Bool
  | [], [] => true
  | a :: l, b :: m => sameU a b && sameL l m
  | _, _ => false
theorem sameL_length : ∀ {l m : List Us}, sameL l m = true → l.length = m.length
  | [], [], _ => rfl
  | a :: l, b :: m, h => by
    unfold sameL at h
    rw [Bool.and_eq_true] at h
    rw [List.length_cons, List.length_cons, sameL_length h.2]
  | [], _ :: _, h => by cases h
  | _ :: _, [], h => by cases h
theorem sameL_rowU : ∀ {l m : List Us}, (∀ u ∈ l, chk6 1 u = 0) → (∀ u ∈ m, chk6 1 u = 0) → (sameL l m = true ↔ rowU l = rowU m)
  | [], [], _, _ => by simp [sameL]
  | [], _ :: _, _, _ => by simp [sameL, rowU]
  | _ :: _, [], _, _ => by simp [sameL, rowU]
  | a :: l, b :: m, h1, h2 => by
    have ih := sameL_rowU (l := l) (m := m) (fun u hu => h1 u (List.mem_cons_of_mem _ hu)) (fun u hu => h2 u (List.mem_cons_of_mem _ hu))
    have ea := bare_of8 (h1 a (List.mem_cons_self ..))
    have eb := bare_of8 (h2 b (List.mem_cons_self ..))
    have hab : sameU a b = true ↔ (a.nm.data.toList, a.hs.data.toList) = (b.nm.data.toList, b.hs.data.toList) := by
      constructor
      · intro h
        unfold sameU at h
        simp only [Bool.and_eq_true, decide_eq_true_eq] at h
        rw [h.1.1.1.1, h.1.1.1.2]
      · intro h
        rw [ea, eb, h]
        simp [sameU, bare7]
    show (sameU a b && sameL l m) = true ↔ (a.nm.data.toList, a.hs.data.toList) :: rowU l = (b.nm.data.toList, b.hs.data.toList) :: rowU m
    rw [Bool.and_eq_true, hab, ih, List.cons.injEq]
end Go.Proofs.YtoeepbmbfambcaaGreatDoor

namespace Go.Proofs.YtoeepbmbfambcaaGreatDoor
open Go.RowKit Go.Maps Go.Sort Go.Shelf

/-- What each operation makes. -/
def YSaV8 (g1 o1 g2 o2 n k c1 c2 : Nat) (a1 a2 : Array Value) (q : Bool) : Nat → Value → World → Prop
  | 0, v, _ => v = .slice (some ⟨g1, o1, none⟩) n c1
  | 1, v, _ => v = .int .i64 k
  | 2, v, _ => v = .pointer (some ⟨g1, o1 + k * 5, none⟩)
  | 3, v, _ => v = .agg a1
  | 4, v, _ => v = .slice (some ⟨g2, o2, none⟩) n c2
  | 5, v, _ => v = .int .i64 k
  | 6, v, _ => v = .pointer (some ⟨g2, o2 + k * 5, none⟩)
  | 7, v, _ => v = .agg a2
  | 8, v, _ => v = .bool q
  | _, v, _ => v = .bool (!q)
theorem YSaV8_keep {g1 o1 g2 o2 n k c1 c2 : Nat} {a1 a2 : Array Value} {q : Bool} {W W' : World} (j : Nat) (z : Value) (hz : YSaV8 g1 o1 g2 o2 n k c1 c2 a1 a2 q j z W) : YSaV8 g1 o1 g2 o2 n k c1 c2 a1 a2 q j z W' := by
  match j, hz with
  | 0, hz => exact hz
  | 1, hz => exact hz
  | 2, hz => exact hz
  | 3, hz => exact hz
  | 4, hz => exact hz
  | 5, hz => exact hz
  | 6, hz => exact hz
  | 7, hz => exact hz
  | 8, hz => exact hz
  | _ + 9, hz => exact hz

set_option maxRecDepth 100000 in
set_option maxHeartbeats 2000000 in
theorem sameusers8_eq (A1 A2 : Option Addr) (c1 c2 n : Nat) (l1 l2 : List Us) (w : World) (hl1 : n = l1.length) (hl2 : n = l2.length) (hn : n ≤ 1000) (h1 : RdU7 w A1 l1) (h2 : RdU7 w A2 l2) (o1 : ∀ u ∈ l1, u.Ok w) (o2 : ∀ u ∈ l2, u.Ok w) :
    Calls Tryz.prog 13 #[.slice A1 n c1, .slice A2 n c2] w (Tells5 (sameL l1 l2) w) := by
  have hnot : ∀ (x : Bool) (w : World), (Op.unary .not (.bool x)).run Tryz.prog w = .ok (.bool (!x)) w := fun _ _ => rfl
  have H1 := Lib.hid h1
  have H2 := Lib.hid h2
  have L1 := Lib.hid hl1
  have L2 := Lib.hid hl2
  have O1 := Lib.hid o1
  have O2 := Lib.hid o2
  obtain ⟨r, hrr⟩ : ∃ r, r = sameL (l1.drop 0) (l2.drop 0) := ⟨_, rfl⟩
  have HRR := Lib.hid hrr
  rw [show sameL l1 l2 = r from hrr.symm]
  clear h1 h2 hl1 hl2 o1 o2 hrr
  go_enter Tryz.func13, Tryz.ntmps13
  go_wp2
  go_loopg [5, 13] n (fun gg _ s13 wr => ∃ k : Nat, k ≤ n ∧ n - k ≤ gg ∧ s13 = .int .i64 k ∧ Hid (Below w.heap.size w wr) ∧ Hid (r = sameL (l1.drop k) (l2.drop k)))
  case atStart => exact ⟨0, Nat.zero_le _, by omega, rfl, Below.refl _ _, HRR.out⟩
  case round =>
    obtain ⟨k, hk, hg, rfl, HW, A0⟩ := hrel
    by_cases hlt : k < n
    · have hltz : (k : Int) < (n : Int) := by omega
      have hk1 : k < l1.length := L1.out ▸ hlt
      have hk2 : k < l2.length := L2.out ▸ hlt
      obtain ⟨g1, o1, rfl, Lg1, q1⟩ := (H1.out.later HW.out) (by intro e; rw [e] at hk1; exact absurd hk1 (Nat.not_lt_zero _))
      obtain ⟨g2, o2, rfl, Lg2, q2⟩ := (H2.out.later HW.out) (by intro e; rw [e] at hk2; exact absurd hk2 (Nat.not_lt_zero _))
      have HS : Hid (∀ W, Below wr.heap.size wr W → Calls Tryz.prog 31 #[.agg #[.string l1[k].nm, .string l1[k].hs, .string l1[k].ml, .bool l1[k].dis, .slice l1[k].ga l1[k].gs.length l1[k].gc], .agg #[.string l2[k].nm, .string l2[k].hs, .string l2[k].ml, .bool l2[k].dis, .slice l2[k].ga l2[k].gs.length l2[k].gc]] W (Tells5 (sameU l1[k] l2[k]) W)) := fun W hb => rsame6_calls l1[k] l2[k] W (((O1.out _ (List.getElem_mem hk1)).below HW.out).below hb) (((O2.out _ (List.getElem_mem hk2)).below HW.out).below hb)
      have hA : r = (sameU l1[k] l2[k] && sameL (l1.drop (k + 1)) (l2.drop (k + 1))) := by
        have := A0.out
        rw [List.drop_eq_getElem_cons hk1, List.drop_eq_getElem_cons hk2] at this
        exact this
      have HA := Lib.hid hA
      clear hA A0
      have C10 : Hid (wr.cell? ⟨g1, o1 + k * 5, none⟩ = some (.string l1[k].nm)) := q1 k hk1 0 _ rfl
      have C11 : Hid (wr.cell? ⟨g1, o1 + k * 5 + 1, none⟩ = some (.string l1[k].hs)) := q1 k hk1 1 _ rfl
      have C12 : Hid (wr.cell? ⟨g1, o1 + k * 5 + 2, none⟩ = some (.string l1[k].ml)) := q1 k hk1 2 _ rfl
      have C13 : Hid (wr.cell? ⟨g1, o1 + k * 5 + 3, none⟩ = some (.bool l1[k].dis)) := q1 k hk1 3 _ rfl
      have C14 : Hid (wr.cell? ⟨g1, o1 + k * 5 + 4, none⟩ = some (.slice l1[k].ga l1[k].gs.length l1[k].gc)) := q1 k hk1 4 _ rfl
      have C20 : Hid (wr.cell? ⟨g2, o2 + k * 5, none⟩ = some (.string l2[k].nm)) := q2 k hk2 0 _ rfl
      have C21 : Hid (wr.cell? ⟨g2, o2 + k * 5 + 1, none⟩ = some (.string l2[k].hs)) := q2 k hk2 1 _ rfl
      have C22 : Hid (wr.cell? ⟨g2, o2 + k * 5 + 2, none⟩ = some (.string l2[k].ml)) := q2 k hk2 2 _ rfl
      have C23 : Hid (wr.cell? ⟨g2, o2 + k * 5 + 3, none⟩ = some (.bool l2[k].dis)) := q2 k hk2 3 _ rfl
      have C24 : Hid (wr.cell? ⟨g2, o2 + k * 5 + 4, none⟩ = some (.slice l2[k].ga l2[k].gs.length l2[k].gc)) := q2 k hk2 4 _ rfl
      clear q1 q2
      generalize sameU l1[k] l2[k] = q at *
      generalize l1[k].nm = nm1 at *
      generalize l1[k].hs = hs1 at *
      generalize l1[k].ml = ml1 at *
      generalize l1[k].dis = dis1 at *
      generalize l1[k].ga = ga1 at *
      generalize l1[k].gs.length = gl1 at *
      generalize l1[k].gc = gc1 at *
      generalize l2[k].nm = nm2 at *
      generalize l2[k].hs = hs2 at *
      generalize l2[k].ml = ml2 at *
      generalize l2[k].dis = dis2 at *
      generalize l2[k].ga = ga2 at *
      generalize l2[k].gs.length = gl2 at *
      generalize l2[k].gc = gc2 at *
      go_wp2_with fail
      refine wp_region_inv (by kernel_rfl) (fun W => Below wr.heap.size wr W) (YSaV8 g1 o1 g2 o2 n k c1 c2 #[.string nm1, .string hs1, .string ml1, .bool dis1, .slice ga1 gl1 gc1] #[.string nm2, .string hs2, .string ml2, .bool dis2, .slice ga2 gl2 gc2] q) ?F ?hF (by kernel_rfl) (by kernel_rfl) (below_drew (Below.refl _ _)) ?step ?fin
      case hF =>
        intro x
        simp only [List.map_cons, List.map_nil, putL, Act.put, List.setIfInBounds_toArray, List.set_cons_zero, List.set_cons_succ, Nat.zero_add, Nat.reduceAdd]
        exact rfl
      case step =>
        refine ⟨?_, ?_, ?_, ?_, ?_, ?_, ?_, ?_, ?_, ?_, trivial⟩
        all_goals intro x W hW hdep K hK
        · clear hdep
          go_simp
          exact hK _ _ rfl hW (fun _ _ h => h)
        · clear hdep
          go_simp
          exact hK _ _ rfl hW (fun _ _ h => h)
        · have h0 : x 0 = _ := hdep 0 rfl
          have h1 : x 1 = _ := hdep 1 rfl
          clear hdep
          simp only [h0, h1] at hK
          go_simp
          exact hK _ _ rfl hW (fun _ _ h => h)
        · have h2 : x 2 = _ := hdep 2 rfl
          have d0 := (hW.cell (p := ⟨g1, o1 + k * 5, none⟩) Lg1).trans C10.out
          have d1 := (hW.cell (p := ⟨g1, o1 + k * 5 + 1, none⟩) Lg1).trans C11.out
          have d2 := (hW.cell (p := ⟨g1, o1 + k * 5 + 2, none⟩) Lg1).trans C12.out
          have d3 := (hW.cell (p := ⟨g1, o1 + k * 5 + 3, none⟩) Lg1).trans C13.out
          have d4 := (hW.cell (p := ⟨g1, o1 + k * 5 + 4, none⟩) Lg1).trans C14.out
          clear hdep
          simp only [h2] at hK
          go_simp
          exact hK _ _ rfl hW (fun _ _ h => h)
        · clear hdep
          go_simp
          exact hK _ _ rfl hW (fun _ _ h => h)
        · clear hdep
          go_simp
          exact hK _ _ rfl hW (fun _ _ h => h)
        · have h4 : x 4 = _ := hdep 4 rfl
          have h5 : x 5 = _ := hdep 5 rfl
          clear hdep
          simp only [h4, h5] at hK
          go_simp
          exact hK _ _ rfl hW (fun _ _ h => h)
        · have h6 : x 6 = _ := hdep 6 rfl
          have d0 := (hW.cell (p := ⟨g2, o2 + k * 5, none⟩) Lg2).trans C20.out
          have d1 := (hW.cell (p := ⟨g2, o2 + k * 5 + 1, none⟩) Lg2).trans C21.out
          have d2 := (hW.cell (p := ⟨g2, o2 + k * 5 + 2, none⟩) Lg2).trans C22.out
          have d3 := (hW.cell (p := ⟨g2, o2 + k * 5 + 3, none⟩) Lg2).trans C23.out
          have d4 := (hW.cell (p := ⟨g2, o2 + k * 5 + 4, none⟩) Lg2).trans C24.out
          clear hdep
          simp only [h6] at hK
          go_simp
          exact hK _ _ rfl hW (fun _ _ h => h)
        · have h3 : x 3 = _ := hdep 3 rfl
          have h7 : x 7 = _ := hdep 7 rfl
          clear hdep
          simp only [h3, h7] at hK
          go_simp
          refine (HS.out W hW).mono ?_
          rintro e W' ⟨rfl, hb⟩
          exact hK _ _ rfl (below_next hW hb) (fun j u hz => YSaV8_keep j u hz)
        · have h8 : x 8 = _ := hdep 8 rfl
          clear hdep
          simp only [h8] at hK
          go_simp
          exact hK _ _ rfl hW (fun _ _ h => h)
      case fin =>
        intro x W hW hY
        have h9 : x 9 = .bool (!q) := hY 9 (by decide)
        have HF := Lib.hid (below_next HW.out hW)
        clear hY hW Lg1 Lg2
        rw [h9]
        cases q with
        | true =>
          have HA2 : Hid (r = sameL (l1.drop (k + 1)) (l2.drop (k + 1))) := HA.out
          clear HA
          go_wp2
          go_roundg (n - (k + 1))
          case measure => omega
          case rel => exact ⟨k + 1, by omega, by omega, by go_num, HF, HA2⟩
        | false =>
          have hr0 : r = false := HA.out
          subst hr0
          clear HA
          go_wp2
          go_ret
          exact ⟨rfl, HF.out⟩
    · have hltz : ¬ (k : Int) < (n : Int) := by omega
      obtain rfl : k = n := by omega
      have hr1 : r = true := by
        have := A0.out
        rw [List.drop_eq_nil_of_le (by have := L1.out; omega), List.drop_eq_nil_of_le (by have := L2.out; omega)] at this
        exact this
      subst hr1
      clear A0
      go_wp2
      go_ret
      exact ⟨rfl, HW.out⟩

set_option maxRecDepth 100000 in
theorem sameusers8_calls (A1 A2 : Option Addr) (c1 c2 n m : Nat) (l1 l2 : List Us) (w : World) (hl1 : n = l1.length) (hl2 : m = l2.length) (hn : n ≤ 1000) (hm : m ≤ 1000) (h1 : RdU7 w A1 l1) (h2 : RdU7 w A2 l2) (o1 : ∀ u ∈ l1, u.Ok w) (o2 : ∀ u ∈ l2, u.Ok w) :
    Calls Tryz.prog 13 #[.slice A1 n c1, .slice A2 m c2] w (Tells5 (sameL l1 l2) w) := by
  by_cases h : n = m
  · subst h
    exact sameusers8_eq A1 A2 c1 c2 n l1 l2 w hl1 hl2 hn h1 h2 o1 o2
  · have hf : sameL l1 l2 = false := by
      cases e : sameL l1 l2
      · rfl
      · exact absurd (sameL_length e) (by omega)
    have hz : ((n : Int) != (m : Int)) = true := by simp; omega
    rw [hf]
    have HB := Lib.hid (Below.refl w.heap.size w)
    clear h1 h2 o1 o2 hl1 hl2 hf h
    go_enter Tryz.func13, Tryz.ntmps13
    go_wp2
    go_ret
    exact ⟨rfl, HB.out⟩
end Go.Proofs.YtoeepbmbfambcaaGreatDoor

namespace Go.Proofs.YtoeepbmbfambcaaGreatDoor
open Go.RowKit Go.Maps Go.Sort Go.Shelf

theorem toList8 (l : List UInt8) : (⟨l.toArray⟩ : ByteArray).toList = l := by
  rw [Lib.toList_data]
/-- What each operation makes. -/
def YAp8 (B1 B2 n1 c1 n2 c2 : Nat) (A1 A2 : Option Addr) (x1 x2 : List UInt8) (q : Bool) : Nat → Value → World → Prop
  | 0, v, _ => v = .pointer (some ⟨B1, 0, none⟩)
  | 1, v, W => Rd W v x1
  | 2, v, _ => v = .string ⟨x1.toArray⟩
  | 3, v, _ => v = .pointer (some ⟨B2, 0, none⟩)
  | 4, v, W => Rd W v x2
  | 5, v, _ => v = .string ⟨x2.toArray⟩
  | 6, v, _ => v = .bool q
  | 7, v, _ => v = .slice A1 n1 c1
  | 8, v, _ => v = .slice A2 n2 c2
  | 9, v, _ => v = .bool q
  | 10, v, _ => v = .bool true
  | _, v, _ => v = .bool true
theorem YAp8_keep {B1 B2 n1 c1 n2 c2 : Nat} {A1 A2 : Option Addr} {x1 x2 : List UInt8} {q : Bool} {W W' : World} (hb : Below W.heap.size W W') (j : Nat) (z : Value) (h : YAp8 B1 B2 n1 c1 n2 c2 A1 A2 x1 x2 q j z W) : YAp8 B1 B2 n1 c1 n2 c2 A1 A2 x1 x2 q j z W' := by
  match j, h with
  | 0, h => exact h
  | 1, h => exact Rd.still h (Turns.of_below hb _)
  | 2, h => exact h
  | 3, h => exact h
  | 4, h => exact Rd.still h (Turns.of_below hb _)
  | 5, h => exact h
  | 6, h => exact h
  | 7, h => exact h
  | 8, h => exact h
  | 9, h => exact h
  | 10, h => exact h
  | _ + 11, h => exact h
theorem Own7.bytes8 {w W : World} {B : Nat} {l : List Us} (h : Own7 w W B (rowU l)) (ho : ofE l = 0) (hm : Len5 W) : Calls Tryz.prog 9 #[.pointer (some ⟨B, 0, none⟩)] W (Told6 W (shotR (rowU l))) := by
  obtain ⟨p, hd, _⟩ := h
  exact bytes8_calls B p (rowU l) W hd (may8 ho).all hm
theorem shot_same {l m : List Us} (h1 : ofE l = 0) (h2 : ofE m = 0) : (shotR (rowU l) = shotR (rowU m)) ↔ sameL l m = true := by
  rw [sameL_rowU (ofE_zero h1).1 (ofE_zero h2).1]
  exact ⟨fun h => shotR_inj (may8 h1).all (may8 h1).of (may8 h1).few (may8 h2).all (may8 h2).of (may8 h2).few h, fun h => by rw [h]⟩

set_option maxRecDepth 100000 in
set_option maxHeartbeats 4000000 in
theorem apart_walk (A1 : Option Addr) (c1 n1 : Nat) (l1 : List Us) (A2 : Option Addr) (c2 n2 : Nat) (l2 : List Us) (w : World) (hl1 : n1 = l1.length) (hn1 : n1 ≤ 9223372036854775807) (hr1 : RdU7 w A1 l1) (ho1 : ∀ u ∈ l1, u.Ok w)
    (hl2 : n2 = l2.length) (hn2 : n2 ≤ 9223372036854775807) (hr2 : RdU7 w A2 l2) (ho2 : ∀ u ∈ l2, u.Ok w) (hm : Len5 w) :
    Calls Tryz.prog 5 #[.slice A1 n1 c1, .slice A2 n2 c2] w (Tells5 true w) := by
  have hnot : ∀ (x : Bool) (w : World), (Op.unary .not (.bool x)).run Tryz.prog w = .ok (.bool (!x)) w := fun _ _ => rfl
  have HV : Hid (Calls Tryz.prog 7 #[] w (Tells5 true w)) := lives8_calls w hm
  have HM1 : Hid (∀ W, Below w.heap.size w W → Calls Tryz.prog 8 #[.slice A1 n1 c1] W (Made8 W l1)) := fun W hb => made8_calls A1 c1 n1 l1 W hl1 hn1 (hr1.later hb) (fun u hu => (ho1 u hu).below hb) (hm.later hb)
  have HM2 : Hid (∀ W, Below w.heap.size w W → Calls Tryz.prog 8 #[.slice A2 n2 c2] W (Made8 W l2)) := fun W hb => made8_calls A2 c2 n2 l2 W hl2 hn2 (hr2.later hb) (fun u hu => (ho2 u hu).below hb) (hm.later hb)
  have HS : Hid (ofE l1 = 0 → ofE l2 = 0 → ∀ W, Below w.heap.size w W → Calls Tryz.prog 13 #[.slice A1 n1 c1, .slice A2 n2 c2] W (Tells5 (sameL l1 l2) W)) := fun h1 h2 W hb => sameusers8_calls A1 A2 c1 c2 n1 n2 l1 l2 W hl1 hl2 (by have := (ofE_zero h1).2.2.1; omega) (by have := (ofE_zero h2).2.2.1; omega) (hr1.later hb) (hr2.later hb) (fun u hu => (ho1 u hu).below hb) (fun u hu => (ho2 u hu).below hb)
  have HMM := Lib.hid hm
  clear hl1 hn1 hr1 ho1 hl2 hn2 hr2 ho2 hm
  go_enter Tryz.func5, Tryz.ntmps5
  go_wp2_with fail
  with_reducible refine HV.out.mono ?_
  rintro e w1 ⟨rfl, hb1⟩
  have HB1 := Lib.hid hb1
  clear hb1 HV
  go_wp2_with fail
  with_reducible refine (HM1.out w1 HB1.out).mono ?_
  rintro e w2 h1
  clear HM1
  rcases h1 with ⟨rfl, hb⟩ | ⟨z1, B1, rfl, hown1⟩
  · have HB2 := Lib.hid (below_next HB1.out hb)
    clear hb
    go_wp2_with fail
    with_reducible refine (HM2.out w2 HB2.out).mono ?_
    rintro e w3 h2
    clear HM2
    rcases h2 with ⟨rfl, hb⟩ | ⟨_, B2, rfl, hown2⟩
    · have HB3 := Lib.hid (below_next HB2.out hb)
      clear hb
      go_wp2
      go_ret
      exact ⟨rfl, HB3.out⟩
    · have HB3 := Lib.hid (below_next HB2.out hown2.below)
      clear hown2
      go_wp2
      go_ret
      exact ⟨rfl, HB3.out⟩
  have HO1 := Lib.hid hown1
  have HB2 := Lib.hid (below_next HB1.out hown1.below)
  clear hown1
  go_wp2_with fail
  with_reducible refine (HM2.out w2 HB2.out).mono ?_
  rintro e w3 h2
  clear HM2
  rcases h2 with ⟨rfl, hb⟩ | ⟨z2, B2, rfl, hown2⟩
  · have HB3 := Lib.hid (below_next HB2.out hb)
    clear hb
    go_wp2
    go_ret
    exact ⟨rfl, HB3.out⟩
  have HB3 := Lib.hid (below_next HB2.out hown2.below)
  have HY1 : Hid (∀ W, Below w3.heap.size w3 W → Calls Tryz.prog 9 #[.pointer (some ⟨B1, 0, none⟩)] W (Told6 W (shotR (rowU l1)))) := fun W hb => ((HO1.out.later hown2.below).later hb).bytes8 z1 (HMM.out.later (below_next HB3.out hb))
  have HY2 : Hid (∀ W, Below w3.heap.size w3 W → Calls Tryz.prog 9 #[.pointer (some ⟨B2, 0, none⟩)] W (Told6 W (shotR (rowU l2)))) := fun W hb => (hown2.later hb).bytes8 z2 (HMM.out.later (below_next HB3.out hb))
  have HS3 : Hid (∀ W, Below w3.heap.size w3 W → Calls Tryz.prog 13 #[.slice A1 n1 c1, .slice A2 n2 c2] W (Tells5 (sameL l1 l2) W)) := fun W hb => HS.out z1 z2 W (below_next HB3.out hb)
  have HQ := Lib.hid (shot_same z1 z2)
  clear hown2 z1 z2 HO1 HS HB1 HB2 HMM
  generalize sameL l1 l2 = q at *
  generalize shotR (rowU l1) = x1 at *
  generalize shotR (rowU l2) = x2 at *
  cases q with
  | true =>
    obtain rfl : x1 = x2 := HQ.out.2 rfl
    clear HQ
    go_wp2_with fail
    refine wp_region_inv (by kernel_rfl) (fun W => Below w3.heap.size w3 W) (YAp8 B1 B2 n1 c1 n2 c2 A1 A2 x1 x1 true) ?F1 ?hF1 (by kernel_rfl) (by kernel_rfl) (below_drew (Below.refl _ _)) ?step1 ?fin1
    case hF1 =>
      intro x
      simp only [List.map_cons, List.map_nil, putL, Act.put, List.setIfInBounds_toArray, List.set_cons_zero, List.set_cons_succ, Nat.zero_add, Nat.reduceAdd]
      exact rfl
    case step1 =>
      refine ⟨?_, ?_, ?_, ?_, ?_, ?_, ?_, ?_, ?_, ?_, ?_, ?_, trivial⟩
      all_goals intro x W hW hdep K hK
      · clear hdep
        go_simp
        exact hK _ _ rfl hW (fun _ _ h => h)
      · have h0 : x 0 = _ := hdep 0 rfl
        clear hdep
        simp only [h0] at hK
        go_simp
        refine (HY1.out W hW).mono ?_
        rintro e W' ⟨v', rfl, ho, _, hb⟩
        exact hK _ _ (Rd.of_own ho) (below_next hW hb) (fun j z h => YAp8_keep hb j z h)
      · have r1 : Rd W (x 1) x1 := hdep 1 rfl
        obtain ⟨A1, c1, h1⟩ := r1.shape
        rw [h1] at r1
        have hs := r1.string (P := Tryz.prog) (src := 27) (dst := 9) Tryz.underlying27 Tryz.underlying5 Tryz.underlying9
        clear hdep
        simp only [h1] at hK
        go_simp
        exact hK _ _ rfl hW (fun _ _ h => h)
      · clear hdep
        go_simp
        exact hK _ _ rfl hW (fun _ _ h => h)
      · have h3 : x 3 = _ := hdep 3 rfl
        clear hdep
        simp only [h3] at hK
        go_simp
        refine (HY2.out W hW).mono ?_
        rintro e W' ⟨v', rfl, ho, _, hb⟩
        exact hK _ _ (Rd.of_own ho) (below_next hW hb) (fun j z h => YAp8_keep hb j z h)
      · have r4 : Rd W (x 4) x1 := hdep 4 rfl
        obtain ⟨A4, c4, h4⟩ := r4.shape
        rw [h4] at r4
        have hs := r4.string (P := Tryz.prog) (src := 27) (dst := 9) Tryz.underlying27 Tryz.underlying5 Tryz.underlying9
        clear hdep
        simp only [h4] at hK
        go_simp
        exact hK _ _ rfl hW (fun _ _ h => h)
      · have h2 : x 2 = _ := hdep 2 rfl
        have h5 : x 5 = _ := hdep 5 rfl
        clear hdep
        simp only [h2, h5] at hK
        go_simp
        exact hK _ _ rfl hW (fun _ _ h => h)
      · clear hdep
        go_simp
        exact hK _ _ rfl hW (fun _ _ h => h)
      · clear hdep
        go_simp
        exact hK _ _ rfl hW (fun _ _ h => h)
      · have h7 : x 7 = _ := hdep 7 rfl
        have h8 : x 8 = _ := hdep 8 rfl
        clear hdep
        simp only [h7, h8] at hK
        go_simp
        refine (HS3.out W hW).mono ?_
        rintro e W' ⟨rfl, hb⟩
        exact hK _ _ rfl (below_next hW hb) (fun j z h => YAp8_keep hb j z h)
      · have h6 : x 6 = _ := hdep 6 rfl
        have h9 : x 9 = _ := hdep 9 rfl
        clear hdep
        simp only [h6, h9] at hK
        go_simp
        exact hK _ _ rfl hW (fun _ _ h => h)
      · have h10 : x 10 = _ := hdep 10 rfl
        clear hdep
        simp only [h10] at hK
        go_simp
        exact hK _ _ rfl hW (fun _ _ h => h)
    case fin1 =>
      intro x W hW hY
      have h11 : x 11 = .bool true := hY 11 (by decide)
      have HF := Lib.hid (below_next HB3.out hW)
      clear hY hW
      rw [h11]
      go_wp2
      go_ret
      exact ⟨rfl, HF.out⟩
  | false =>
    have hne : (x1 == x2) = false := by
      cases h : (x1 == x2)
      · rfl
      · exact absurd (HQ.out.1 (by simpa using h)) (by simp)
    clear HQ
    go_wp2_with fail
    refine wp_region_inv (by kernel_rfl) (fun W => Below w3.heap.size w3 W) (YAp8 B1 B2 n1 c1 n2 c2 A1 A2 x1 x2 false) ?F2 ?hF2 (by kernel_rfl) (by kernel_rfl) (below_drew (Below.refl _ _)) ?step2 ?fin2
    case hF2 =>
      intro x
      simp only [List.map_cons, List.map_nil, putL, Act.put, List.setIfInBounds_toArray, List.set_cons_zero, List.set_cons_succ, Nat.zero_add, Nat.reduceAdd]
      exact rfl
    case step2 =>
      refine ⟨?_, ?_, ?_, ?_, ?_, ?_, ?_, ?_, ?_, ?_, ?_, ?_, trivial⟩
      all_goals intro x W hW hdep K hK
      · clear hdep
        go_simp
        exact hK _ _ rfl hW (fun _ _ h => h)
      · have h0 : x 0 = _ := hdep 0 rfl
        clear hdep
        simp only [h0] at hK
        go_simp
        refine (HY1.out W hW).mono ?_
        rintro e W' ⟨v', rfl, ho, _, hb⟩
        exact hK _ _ (Rd.of_own ho) (below_next hW hb) (fun j z h => YAp8_keep hb j z h)
      · have r1 : Rd W (x 1) x1 := hdep 1 rfl
        obtain ⟨A1, c1, h1⟩ := r1.shape
        rw [h1] at r1
        have hs := r1.string (P := Tryz.prog) (src := 27) (dst := 9) Tryz.underlying27 Tryz.underlying5 Tryz.underlying9
        clear hdep
        simp only [h1] at hK
        go_simp
        exact hK _ _ rfl hW (fun _ _ h => h)
      · clear hdep
        go_simp
        exact hK _ _ rfl hW (fun _ _ h => h)
      · have h3 : x 3 = _ := hdep 3 rfl
        clear hdep
        simp only [h3] at hK
        go_simp
        refine (HY2.out W hW).mono ?_
        rintro e W' ⟨v', rfl, ho, _, hb⟩
        exact hK _ _ (Rd.of_own ho) (below_next hW hb) (fun j z h => YAp8_keep hb j z h)
      · have r4 : Rd W (x 4) x2 := hdep 4 rfl
        obtain ⟨A4, c4, h4⟩ := r4.shape
        rw [h4] at r4
        have hs := r4.string (P := Tryz.prog) (src := 27) (dst := 9) Tryz.underlying27 Tryz.underlying5 Tryz.underlying9
        clear hdep
        simp only [h4] at hK
        go_simp
        exact hK _ _ rfl hW (fun _ _ h => h)
      · have h2 : x 2 = _ := hdep 2 rfl
        have h5 : x 5 = _ := hdep 5 rfl
        clear hdep
        simp only [h2, h5] at hK
        go_simp
        exact hK _ _ rfl hW (fun _ _ h => h)
      · clear hdep
        go_simp
        exact hK _ _ rfl hW (fun _ _ h => h)
      · clear hdep
        go_simp
        exact hK _ _ rfl hW (fun _ _ h => h)
      · have h7 : x 7 = _ := hdep 7 rfl
        have h8 : x 8 = _ := hdep 8 rfl
        clear hdep
        simp only [h7, h8] at hK
        go_simp
        refine (HS3.out W hW).mono ?_
        rintro e W' ⟨rfl, hb⟩
        exact hK _ _ rfl (below_next hW hb) (fun j z h => YAp8_keep hb j z h)
      · have h6 : x 6 = _ := hdep 6 rfl
        have h9 : x 9 = _ := hdep 9 rfl
        clear hdep
        simp only [h6, h9] at hK
        go_simp
        exact hK _ _ rfl hW (fun _ _ h => h)
      · have h10 : x 10 = _ := hdep 10 rfl
        clear hdep
        simp only [h10] at hK
        go_simp
        exact hK _ _ rfl hW (fun _ _ h => h)
    case fin2 =>
      intro x W hW hY
      have h11 : x 11 = .bool true := hY 11 (by decide)
      have HF := Lib.hid (below_next HB3.out hW)
      clear hY hW
      rw [h11]
      go_wp2
      go_ret
      exact ⟨rfl, HF.out⟩
end Go.Proofs.YtoeepbmbfambcaaGreatDoor

namespace Go.Proofs.YtoeepbmbfambcaaGreatDoor.shotApart
open Go.ChangeShapes Go.WideShapes Go.ChangeAt Go.RowKit
set_option linter.unusedVariables false

theorem own : ownKnob Tryz.prog.godebug = none := by kernel_rfl
theorem laidOut : laidOutB Tryz.prog = true := by kernel_rfl

theorem walk (w : World) (hm : Len5 w) (a0 : Option Addr) (len0 cap0 : Nat) (l0 : List Us) (s0 : IsUsers w a0 len0 l0) (a1 : Option Addr) (len1 cap1 : Nat) (l1 : List Us) (s1 : IsUsers w a1 len1 l1) :
    Calls Tryz.prog 5 #[.slice a0 len0 cap0, .slice a1 len1 cap1] w fun e w' => e = .returned (.bool true) ∧ Below w.heap.size w w' := by
  obtain ⟨h1, h2, h3, h4⟩ := s0
  obtain ⟨g1, g2, g3, g4⟩ := s1
  exact apart_walk a0 cap0 len0 l0 a1 cap1 len1 l1 w h1 (by omega) h3 h4 g1 (by omega) g3 g4 hm

set_option maxRecDepth 100000 in
theorem lifted (os : Os) (started : os.Started) (H : Type) (enc : TypeId × Value → H) :
    ReturnsInHanded {} Tryz.checked os 5 .any (fun w args => (Rows.shotApartSpec.pre enc Tryz.prog Tryz.f5 Rows.shotApartRow.domain false w args ∧ laidMetH Tryz.prog Rows.shotApartRow.laid w) ∧ sizedMet enc Tryz.prog Tryz.f5 (OpenSpec.ofChange Rows.shotApartSpec) false w args)
      (Rows.shotApartSpec.post enc Tryz.prog Tryz.f5 false true false false) := by
  refine returns_laid6 (C := Tryz.checked) (X := fun w _ => laidMetH Tryz.prog Rows.shotApartRow.laid w) own started (by kernel_rfl) Tryz.func5
    (ChangeSpec.witness_shaped (enc := enc) (C := Tryz.checked) (os := os) (X := fun w _ => laidMetH Tryz.prog Rows.shotApartRow.laid w) false (World.laidAll Tryz.prog os Rows.shotApartRow.laid) #[.slice none 0 0, .slice none 0 0] 8 (World.laidAll_os _ _ _)
      (World.shaped_of_ZipB (by kernel_rfl) (by kernel_rfl)) (by kernel_rfl) (by kernel_rfl) (by kernel_rfl)
      (by rw [MakeChecks.laidMetH_plain _ _ _ (by kernel_rfl)]; exact laidMet_laidAll _ (by kernel_rfl) (by kernel_rfl))) ?_
  intro W base args ds gs before hval0 hW hwt0 hsh
  have hval : ∀ (j : Nat) t v, Tryz.f5.params[j]? = some t → args[j]? = some v → Value.okWide Tryz.prog W .any base t v := hval0
  have hW' := hW
  obtain ⟨p, q, hA0, hV, rfl, hfz, hnd⟩ := hW
  have hA : DataW.TrodAll enc Tryz.prog W 0 (fun _ => true) true Tryz.f5.params.toList args.toList ds p := hA0
  have hwt : (DataW.weightsEach Tryz.prog (Tryz.f5.params.toList ++ (OpenSpec.ofChange Rows.shotApartSpec).bare.plain.varTypes Tryz.prog) (ds ++ gs)).all (· ≤ reachBytes) = true := hwt0
  rw [Tryz.params5] at hA hval hwt
  obtain ⟨v0, vs0, d0, ds0, p0, q0, hargs, rfl, rfl, h0, r0⟩ := trodAll_cons hA
  obtain ⟨v1, vs1, d1, ds1, p1, q1, rfl, rfl, rfl, h1, r1⟩ := trodAll_cons r0
  obtain ⟨rfl, rfl, rfl⟩ := trodAll_nil r1
  obtain rfl : args = #[v0, v1] := by cases args; simp_all
  obtain ⟨rfl, rfl⟩ := trodVars_none hV
  obtain ⟨a0, len0, cap0, rfl⟩ := okWide_slice Tryz.underlying22 (hval 0 22 v0 rfl rfl)
  have lt0 : ∀ x ∈ p0, x.block < W.heap.size := by obtain ⟨m, hm⟩ := h0; exact DataW.trod_lt m _ _ _ hm
  obtain ⟨l0, s0⟩ := users_of h0 (fun n hn => by simpa using List.all_eq_true.1 hwt n (DataW.weights_mem_each (j := 0) rfl rfl n hn))
  obtain ⟨a1, len1, cap1, rfl⟩ := okWide_slice Tryz.underlying22 (hval 1 22 v1 rfl rfl)
  have lt1 : ∀ x ∈ p1, x.block < W.heap.size := by obtain ⟨m, hm⟩ := h1; exact DataW.trod_lt m _ _ _ hm
  obtain ⟨l1, s1⟩ := users_of h1 (fun n hn => by simpa using List.all_eq_true.1 hwt n (DataW.weights_mem_each (j := 1) rfl rfl n hn))
  clear hA0 hval0 hwt0
  refine (walk W (len5_of hsh) a0 len0 cap0 l0 s0 a1 len1 cap1 l1 s1).mono fun e W' ⟨he, bel⟩ => ?_
  subst he
  exact ⟨_, rfl, _, _, _, [], _, [], hW', trodAll_mk1 (shut_bool Tryz.underlying4 _), (trodAll_cons_mk (Below.trod laidOut (by kernel_rfl) (of_decide_eq_true (by kernel_rfl)) h0 bel lt0) (trodAll_cons_mk (Below.trod laidOut (by kernel_rfl) (of_decide_eq_true (by kernel_rfl)) h1 bel lt1) trodAll_mk0)), rfl, bel.frame _, fun h => by cases h⟩

theorem row_holds : Rows.ShotApartSaid :=
  OpenClaim.holds_of_wide 5 Tryz.f5 rfl rfl rfl rfl rfl rfl rfl ⟨rfl, rfl, rfl, rfl, rfl⟩ rfl rfl rfl rfl rfl (by kernel_rfl) Tryz.func5 (by kernel_rfl)
    (of_decide_eq_true (by kernel_rfl)) (by unfold Func.isWrapper; first | (rw [if_pos (by decide +kernel)]; kernel_rfl) | (rw [if_neg (by decide +kernel)]; exact ⟨rfl, rfl⟩))
    (fun os started H enc _ => lifted os started H enc)

theorem proved : Rows.ShotApartCardSaid :=
  Claim7.holds_tied_plain_at .later [] Rows.shotApartCard.laidKinds true Rows.shotApartCard.stood.harness false row_holds (fun _ h => by cases h) (by kernel_rfl) (fun _ h => by cases h) shotApart_row_tie rfl ⟨rfl, rfl⟩ (by kernel_rfl) rfl
    (fun f fn hf hfn => by
      obtain rfl : f = 5 := Option.some.inj ((show Tryz.prog.funcNamed Rows.shotApartRow.func = some 5 by kernel_rfl).symm.trans hf) |>.symm
      obtain rfl : fn = Tryz.f5 := (Option.some.inj (Tryz.func5.symm.trans hfn)).symm
      exact ⟨by kernel_rfl, fun j t ht => by
        rw [Tryz.params5] at ht
        have hm : t ∈ [22, 22] := by simpa using Array.mem_of_getElem? ht
        have hall : ([22, 22].all fun u => !Tryz.prog.wantsStandIn u) = true := by kernel_rfl
        exact (show Tryz.prog.wantsStandIn t = false by simpa using List.all_eq_true.1 hall t hm)⟩)
    (by kernel_rfl)
end Go.Proofs.YtoeepbmbfambcaaGreatDoor.shotApart

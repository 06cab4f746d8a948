/-
  Of of package elder: users make a directory, or the first error is told.
  Conditions: texts and rows are no longer than they may be; the library's own variable MaxLen holds some number.
-/
import Derived.Test.YtclnkboejbnfnaaGreatDoorElderOwn
import Derived.Test.YtclnkboejbnfnaaGreatDoorOpenV
import Derived.Test.YtclnkboejbnfnaaGreatDoorUserE
namespace Go.Proofs.YtclnkboejbnfnaaGreatDoor
open Go.RowKit Go.Maps Go.Sort Go.Shelf

/-- The first error of users that may not be. -/
def mayE : List Us → Int
  | [] => 0
  | u :: r => if chk6 1 u = 0 then mayE r else chk6 1 u
/-- Their names and sums. -/
def rowU (l : List Us) : Row7 := l.map fun u => (u.nm.data.toList, u.hs.data.toList)
/-- What Of tells. -/
def ofE (l : List Us) : Int := first7 [mayE l, err5 (rise6 (l.map (·.nm))) 9, err5 (decide ((l.length : Int) ≤ 12)) 7]

theorem mayE_zero : ∀ {l : List Us}, mayE l = 0 → ∀ u ∈ l, chk6 1 u = 0
  | [], _, u, h => by cases h
  | x :: r, h, u, hu => by
    unfold mayE at h
    by_cases e : chk6 1 x = 0
    · rw [if_pos e] at h
      rcases List.mem_cons.1 hu with rfl | hu
      · exact e
      · exact mayE_zero h u hu
    · rw [if_neg e] at h
      exact absurd h e
theorem rise6_pair : ∀ {ss : List ByteArray}, rise6 ss = true → ss.Pairwise fun a b => bytesBefore a.data.toList b.data.toList = true
  | [], _ => List.Pairwise.nil
  | [_], _ => by simp
  | a :: b :: r, h => by
    unfold rise6 at h
    rw [Bool.and_eq_true] at h
    have ih := rise6_pair (ss := b :: r) h.2
    have hab : bytesBefore a.data.toList b.data.toList = true := by
      have := h.1
      unfold ahead6 at this
      rwa [before_cmp] at this
    refine List.pairwise_cons.2 ⟨fun x hx => ?_, ih⟩
    rcases List.mem_cons.1 hx with rfl | hx
    · exact hab
    · exact WideShapes.bytes_trans _ _ _ hab ((List.pairwise_cons.1 ih).1 x hx)
theorem ofE_zero {l : List Us} (h : ofE l = 0) : (∀ u ∈ l, chk6 1 u = 0) ∧ Rise7 (rowU l) ∧ l.length ≤ 12 ∧ ∀ u ∈ l, u.nm.size ≤ 12 ∧ u.hs.size ≤ 12 := by
  obtain ⟨e1, h⟩ := first7_cons h
  obtain ⟨e2, h⟩ := first7_cons h
  obtain ⟨e3, _⟩ := first7_cons h
  have hm := mayE_zero e1
  have hr := (err7_zero (by decide)).1 e2
  have hl := (err7_zero (by decide)).1 e3
  rw [decide_eq_true_eq] at hl
  refine ⟨hm, ?_, by omega, fun u hu => ?_⟩
  · have := rise6_pair hr
    rw [List.pairwise_map] at this
    unfold Rise7 rowU
    rw [List.pairwise_map]
    exact this
  · obtain ⟨_, h1, h2⟩ := chk6_head (hm u hu)
    exact ⟨name7_size h1, hash7_size h2⟩
theorem put_next {l : List Us} (hr : Rise7 (rowU l)) {k : Nat} (hk : k < l.length) : putE (rowU (l.take k)) l[k].nm.data.toList l[k].hs.data.toList = rowU (l.take (k + 1)) := by
  have hk' : k < (rowU l).length := by unfold rowU; simpa using hk
  have e0 : rowU (l.take k) = (rowU l).take k := by unfold rowU; rw [List.map_take]
  have e1 : rowU (l.take (k + 1)) = (rowU l).take (k + 1) := by unfold rowU; rw [List.map_take]
  have e2 : (rowU l)[k]'hk' = (l[k].nm.data.toList, l[k].hs.data.toList) := List.getElem_map _
  have hup : ∀ y ∈ (rowU l).take k, bytesBefore y.1 (rowU l)[k].1 = true := by
    intro y hy
    obtain ⟨j, hj, rfl⟩ := List.getElem_of_mem hy
    rw [List.getElem_take]
    exact List.pairwise_iff_getElem.1 hr j k _ hk' (by simp at hj; omega)
  rw [e2] at hup
  rw [e0, e1, List.take_succ_eq_append_getElem hk', e2]
  unfold putE
  rw [del_of_not (by
    cases h : hasE ((rowU l).take k) l[k].nm.data.toList
    · rfl
    · obtain ⟨p, hp, he⟩ := hasE_iff.1 h
      exact absurd he (before_ne (hup p hp)))]
  have ins : ∀ {x : List UInt8 × List UInt8} {D : Row7}, (∀ y ∈ D, bytesBefore x.1 y.1 = false) → insE x D = D ++ [x] := by
    intro x D
    induction D with
    | nil => intro _; rfl
    | cons y r ih =>
      intro h
      unfold insE
      rw [h y (by simp), ih (fun z hz => h z (by simp [hz]))]
      simp
  exact ins fun y hy => before_anti (hup y hy)

set_option maxRecDepth 100000 in
set_option maxHeartbeats 2000000 in
theorem maybe71_calls (C : Nat) (A : Option Addr) (c n : Nat) (l : List Us) (w : World) (hC : w.cell? ⟨C, 0, none⟩ = some (.slice A n c)) (hl : n = l.length) (hn : n ≤ 9223372036854775807) (hr : RdU7 w A l) (ho : ∀ u ∈ l, u.Ok w) (hm : Len5 w) :
    Calls Tryz.prog 115 #[.pointer (some ⟨C, 0, none⟩)] w (Errs5 (mayE l) w) := by
  have HR := Lib.hid hr
  have HL := Lib.hid hl
  have HO := Lib.hid ho
  have HM := Lib.hid hm
  clear hr hl ho hm
  obtain ⟨r, hr⟩ : ∃ r, r = mayE l := ⟨_, rfl⟩
  rw [← hr]
  have HRR : Hid (r = mayE (l.drop 0)) := hr
  clear hr
  go_enter Tryz.func115, Tryz.ntmps115
  go_wp2
  clear hC
  go_loopg [3, 4, 7] n (fun gg _ _ s7 wr => ∃ k : Nat, k ≤ n ∧ n - k ≤ gg ∧ s7 = .int .i64 k ∧ Hid (Below w.heap.size w wr) ∧ Hid (r = mayE (l.drop k)))
  case atStart => exact ⟨0, Nat.zero_le _, by omega, rfl, Below.refl _ _, HRR⟩
  case round =>
    obtain ⟨k, hk, hg, rfl, HW, A0⟩ := hrel
    by_cases hlt : k < n
    · have hltz : (k : Int) < (n : Int) := by omega
      have hkl : k < l.length := HL.out ▸ hlt
      obtain ⟨b, off, rfl, hb, hc⟩ := (HR.out.later HW.out) (by intro e; rw [e] at hkl; exact absurd hkl (Nat.not_lt_zero _))
      have c0 : wr.cell? ⟨b, off + k * 5, none⟩ = some (.string l[k].nm) := hc k hkl 0 _ rfl
      have c1 : wr.cell? ⟨b, off + k * 5 + 1, none⟩ = some (.string l[k].hs) := hc k hkl 1 _ rfl
      have c2 : wr.cell? ⟨b, off + k * 5 + 2, none⟩ = some (.string l[k].ml) := hc k hkl 2 _ rfl
      have c3 : wr.cell? ⟨b, off + k * 5 + 3, none⟩ = some (.bool l[k].dis) := hc k hkl 3 _ rfl
      have c4 : wr.cell? ⟨b, off + k * 5 + 4, none⟩ = some (.slice l[k].ga l[k].gs.length l[k].gc) := hc k hkl 4 _ rfl
      have hb1 := below_next HW.out (below_alloc (Below.refl wr.heap.size wr) (.cells #[.string l[k].nm, .string l[k].hs, .string l[k].ml, .bool l[k].dis, .slice l[k].ga l[k].gs.length l[k].gc] 26))
      have HC : Hid (Calls Tryz.prog 116 #[.int .i64 1, .agg #[.string l[k].nm, .string l[k].hs, .string l[k].ml, .bool l[k].dis, .slice l[k].ga l[k].gs.length l[k].gc]] (wr.alloc (.cells #[.string l[k].nm, .string l[k].hs, .string l[k].ml, .bool l[k].dis, .slice l[k].ga l[k].gs.length l[k].gc] 26)) (Errs5 (chk6 1 l[k]) (wr.alloc (.cells #[.string l[k].nm, .string l[k].hs, .string l[k].ml, .bool l[k].dis, .slice l[k].ga l[k].gs.length l[k].gc] 26)))) := check6_calls 1 l[k] _ ((HO.out _ (List.getElem_mem hkl)).below hb1) (HM.out.later hb1)
      have HB1 := Lib.hid hb1
      have hA : r = (if chk6 1 l[k] = 0 then mayE (l.drop (k + 1)) else chk6 1 l[k]) := by
        have := A0.out
        rw [List.drop_eq_getElem_cons hkl] at this
        exact this
      clear hc hb hb1 A0
      generalize chk6 1 l[k] = x at *
      generalize l[k].nm = nm at *
      generalize l[k].hs = hs at *
      generalize l[k].ml = ml at *
      generalize l[k].dis = dis at *
      generalize l[k].ga = ga at *
      generalize l[k].gs.length = gl at *
      generalize l[k].gc = gc at *
      by_cases h0 : x = 0
      · rw [if_pos h0] at hA
        have HA := Lib.hid hA
        subst h0
        clear hA
        go_wp2_with (go_at_call 116; (with_reducible refine HC.out.mono ?_); rintro e w2 ⟨rfl, hb⟩; have HB2 := Lib.hid (below_next HB1.out hb); clear hb)
        go_roundg (n - (k + 1))
        case measure => omega
        case rel => exact ⟨k + 1, by omega, by omega, by go_num, HB2, HA⟩
      · rw [if_neg h0] at hA
        subst hA
        have hx1 : (r != 0) = true := by simpa using h0
        go_wp2_with (go_at_call 116; (with_reducible refine HC.out.mono ?_); rintro e w2 ⟨rfl, hb⟩; have HB2 := Lib.hid (below_next HB1.out hb); clear hb)
        go_ret
        exact ⟨rfl, HB2.out⟩
    · have hltz : ¬ (k : Int) < (n : Int) := by omega
      have hA : r = 0 := by
        have := A0.out
        rw [List.drop_eq_nil_of_le (by have := HL.out; omega)] at this
        exact this
      subst hA
      clear A0
      go_wp2
      go_ret
      exact ⟨rfl, HW.out⟩
set_option maxRecDepth 100000 in
theorem maybe7_calls (A : Option Addr) (c n : Nat) (l : List Us) (w : World) (hl : n = l.length) (hn : n ≤ 9223372036854775807) (hr : RdU7 w A l) (ho : ∀ u ∈ l, u.Ok w) (hm : Len5 w) :
    Calls Tryz.prog 45 #[.slice A n c] w (Makes7 (mayE l) w) := by
  have hmf := mkf
  have HR := Lib.hid hr
  have HO := Lib.hid ho
  have HM := Lib.hid hm
  have HL := Lib.hid hl
  clear hr ho hm hl
  go_enter Tryz.func45, Tryz.ntmps45
  go_wp2
  go_ret
  have bl := below_alloc (Below.refl w.heap.size w) (.cells #[.slice A n c] 22)
  refine ⟨_, _, rfl, ?_, bl⟩
  refine ⟨_, _, rfl, enters_of Tryz.func115 (by kernel_rfl) rfl, fun W hb => ?_⟩
  have hW := below_next bl hb
  exact maybe71_calls _ A c n l W ((hb.cell (p := ⟨_, 0, none⟩) (by simp)).trans (by simp)) HL.out hn (HR.out.later hW) (fun u hu => (HO.out u hu).below hW) (HM.out.later hW)
/-- What each operation makes. -/
def YRi7 (b off n c j : Nat) (x y : ByteArray) (q : Int) : Nat → Value → World → Prop
  | 0, v, _ => v = .slice (some ⟨b, off, none⟩) n c
  | 1, v, _ => v = .int .i64 ((j : Int) + 1)
  | 2, v, _ => v = .int .i64 (j : Int)
  | 3, v, _ => v = .pointer (some ⟨b, off + j * 5, none⟩)
  | 4, v, _ => v = .pointer (some ⟨b, off + j * 5, none⟩)
  | 5, v, _ => v = .string x
  | 6, v, _ => v = .slice (some ⟨b, off, none⟩) n c
  | 7, v, _ => v = .int .i64 ((j : Int) + 1)
  | 8, v, _ => v = .pointer (some ⟨b, off + (j + 1) * 5, none⟩)
  | 9, v, _ => v = .pointer (some ⟨b, off + (j + 1) * 5, none⟩)
  | 10, v, _ => v = .string y
  | 11, v, _ => v = .int .i64 q
  | _, v, _ => v = .bool (decide (q ≥ 0))

set_option maxRecDepth 100000 in
set_option maxHeartbeats 2000000 in
theorem rise71_calls (C : Nat) (A : Option Addr) (c n : Nat) (l : List Us) (w : World) (hC : w.cell? ⟨C, 0, none⟩ = some (.slice A n c)) (hl : n = l.length) (hn : n ≤ 9000000000000000000) (hr : RdU7 w A l) :
    Calls Tryz.prog 117 #[.pointer (some ⟨C, 0, none⟩)] w (Errs5 (err5 (rise6 (l.map (·.nm))) 9) w) := by
  have HR := Lib.hid hr
  have HL := Lib.hid hl
  have HCw := Lib.hid hC
  have LCw : C < w.heap.size := World.block_lt_of_cell? w _ hC
  obtain ⟨r, hrr⟩ : ∃ r, r = err5 (rise6 (l.map (·.nm))) 9 := ⟨_, rfl⟩
  rw [← hrr]
  have HRR := Lib.hid hrr
  clear hr hl hC hrr
  go_enter Tryz.func117, Tryz.ntmps117
  go_wp2
  go_loopg [2] (n + 1) (fun gg s2 wr => ∃ j : Nat, j ≤ n ∧ n + 1 - j ≤ gg ∧ s2 = .int .i64 ((j : Int) + 1) ∧ Hid (Below w.heap.size w wr) ∧ Hid (∀ i (h : i + 1 < l.length), i < j → ahead6 l[i].nm l[i + 1].nm = true))
  case atStart => exact ⟨0, Nat.zero_le _, by omega, rfl, Below.refl _ _, fun i _ hi => absurd hi (Nat.not_lt_zero _)⟩
  case round =>
    obtain ⟨j, hj, hg, rfl, HW, A0⟩ := hrel
    have LC : C < wr.heap.size := Nat.lt_of_lt_of_le LCw HW.out.size
    have HCC := Lib.hid ((HW.out.cell (p := ⟨C, 0, none⟩) LCw).trans HCw.out)
    have hcc := HCC.out
    by_cases hlt : j + 1 < n
    · have hltz : (j : Int) + 1 < (n : Int) := by omega
      have hltz0 : (j : Int) < (n : Int) := by omega
      have hj0 : (0 : Int) ≤ (j : Int) := by omega
      have hj1 : (0 : Int) ≤ (j : Int) + 1 := by omega
      have hjl : j + 1 < l.length := HL.out ▸ hlt
      obtain ⟨b, off, rfl, hb, hc⟩ := (HR.out.later HW.out) (by intro e; rw [e] at hjl; exact absurd hjl (Nat.not_lt_zero _))
      have LB : b < wr.heap.size := hb
      have HX : Hid (wr.cell? ⟨b, off + j * 5, none⟩ = some (.string l[j].nm)) := hc j (by omega) 0 _ rfl
      have HY0 : Hid (wr.cell? ⟨b, off + (j + 1) * 5, none⟩ = some (.string l[j + 1].nm)) := hc (j + 1) hjl 0 _ rfl
      have HCM : Hid (∀ W, Calls Tryz.prog 118 #[.string l[j].nm, .string l[j + 1].nm] W fun e w' => e = .returned (.int .i64 (Lib.compareBytes l[j].nm.data.toList l[j + 1].nm.data.toList)) ∧ w' = W) := fun W => compare_calls _ _ W
      have HAH : Hid (ahead6 l[j].nm l[j + 1].nm = decide (Lib.compareBytes l[j].nm.data.toList l[j + 1].nm.data.toList < 0)) := rfl
      have HT : Hid (ahead6 l[j].nm l[j + 1].nm = true → ∀ i (h : i + 1 < l.length), i < j + 1 → ahead6 l[i].nm l[i + 1].nm = true) := fun hq i h hi => by
        by_cases e : i = j
        · subst e; exact hq
        · exact A0.out i h (by omega)
      have HF : Hid (ahead6 l[j].nm l[j + 1].nm = false → r = 9) := fun hf => by
        rw [HRR.out, rise6_bad (l.map (·.nm)) j (by simpa using hjl) (by simpa using hf)]
        rfl
      clear hc hb A0
      generalize ahead6 l[j].nm l[j + 1].nm = ah at *
      generalize Lib.compareBytes l[j].nm.data.toList l[j + 1].nm.data.toList = q at *
      generalize l[j].nm = x at *
      generalize l[j + 1].nm = y at *
      go_wp2_with fail
      refine wp_region_inv (by kernel_rfl) (fun W => Below wr.heap.size wr W) (YRi7 b off n c j x y q) ?F ?hF (by kernel_rfl) (by kernel_rfl) (below_drew (Below.refl _ _)) ?step ?fin
      case hF =>
        intro x
        simp only [List.map_cons, List.map_nil, putL, Act.put, List.setIfInBounds_toArray, List.set_cons_zero, List.set_cons_succ, Nat.zero_add, Nat.reduceAdd]
        exact rfl
      case step =>
        refine ⟨?_, ?_, ?_, ?_, ?_, ?_, ?_, ?_, ?_, ?_, ?_, ?_, ?_, trivial⟩
        all_goals intro x W hW hdep K hK
        · have d1 := (hW.cell (p := ⟨C, 0, none⟩) LC).trans HCC.out
          clear hdep
          go_simp
          exact hK _ _ rfl hW (fun _ _ h => h)
        · clear hdep
          go_simp
          exact hK _ _ rfl hW (fun _ _ h => h)
        · have h1 : x 1 = _ := hdep 1 rfl
          clear hdep
          simp only [h1] at hK
          go_simp
          refine hK _ _ ?_ hW (fun _ _ h => h)
          show Value.int .i64 _ = Value.int .i64 _
          refine congrArg (Value.int IntKind.i64) ?_
          first | omega | (rw [IntKind.wrap_i64] <;> omega)
        · have h0 : x 0 = _ := hdep 0 rfl
          have h2 : x 2 = _ := hdep 2 rfl
          clear hdep
          simp only [h0, h2] at hK
          go_simp
          exact hK _ _ rfl hW (fun _ _ h => h)
        · have h3 : x 3 = _ := hdep 3 rfl
          clear hdep
          simp only [h3] at hK
          go_simp
          exact hK _ _ rfl hW (fun _ _ h => h)
        · have h4 : x 4 = _ := hdep 4 rfl
          have d2 := (hW.cell (p := ⟨b, off + j * 5, none⟩) LB).trans HX.out
          clear hdep
          simp only [h4] at hK
          go_simp
          exact hK _ _ rfl hW (fun _ _ h => h)
        · have d1 := (hW.cell (p := ⟨C, 0, none⟩) LC).trans HCC.out
          clear hdep
          go_simp
          exact hK _ _ rfl hW (fun _ _ h => h)
        · clear hdep
          go_simp
          exact hK _ _ rfl hW (fun _ _ h => h)
        · have h6 : x 6 = _ := hdep 6 rfl
          have h7 : x 7 = _ := hdep 7 rfl
          clear hdep
          simp only [h6, h7] at hK
          go_simp
          exact hK _ _ (by show _ = _; first | rfl | (congr 3; omega)) hW (fun _ _ h => h)
        · have h8 : x 8 = _ := hdep 8 rfl
          clear hdep
          simp only [h8] at hK
          go_simp
          exact hK _ _ rfl hW (fun _ _ h => h)
        · have h9 : x 9 = _ := hdep 9 rfl
          have d2 := (hW.cell (p := ⟨b, off + (j + 1) * 5, none⟩) LB).trans HY0.out
          clear hdep
          simp only [h9] at hK
          go_simp
          exact hK _ _ rfl hW (fun _ _ h => h)
        · have h5 : x 5 = _ := hdep 5 rfl
          have h10 : x 10 = _ := hdep 10 rfl
          clear hdep
          simp only [h5, h10] at hK
          go_simp
          refine (HCM.out W).mono ?_
          rintro e W' ⟨rfl, rfl⟩
          exact hK _ _ rfl hW (fun _ _ h => h)
        · have h11 : x 11 = _ := hdep 11 rfl
          clear hdep
          simp only [h11] at hK
          go_simp
          exact hK _ _ rfl hW (fun _ _ h => h)
      case fin =>
        intro x W hW hY
        have h12 : x 12 = .bool (decide (q ≥ 0)) := hY 12 (by decide)
        have HFF := Lib.hid (below_next HW.out hW)
        clear hY hW LC LB HX HY0 HCM HCC hcc
        rw [h12]
        by_cases hq : q ≥ 0
        · have hah : ah = false := by rw [HAH.out]; exact decide_eq_false (by omega)
          have hr9 := HF.out hah
          rw [decide_eq_true hq]
          subst hr9
          clear HT HF
          go_wp2
          go_ret
          exact ⟨rfl, HFF.out⟩
        · have hah : ah = true := by rw [HAH.out]; exact decide_eq_true (by omega)
          have HT2 := Lib.hid (HT.out hah)
          rw [decide_eq_false hq]
          clear HT HF hah
          go_wp2
          go_roundg (n + 1 - (j + 1))
          case measure => omega
          case rel => exact ⟨j + 1, by omega, by omega, by go_num, HFF, HT2⟩
    · have hltz : ¬ (j : Int) + 1 < (n : Int) := by omega
      have hr0 : r = 0 := by
        rw [HRR.out, rise6_all (l.map (·.nm)) (fun k hk => by
          have hk' : k + 1 < l.length := by simpa using hk
          have := A0.out k hk' (by have := HL.out; omega)
          simpa using this)]
        rfl
      subst hr0
      clear A0
      go_wp2
      go_ret
      exact ⟨rfl, HW.out⟩
set_option maxRecDepth 100000 in
theorem rise7_calls (A : Option Addr) (c n : Nat) (l : List Us) (w : World) (hl : n = l.length) (hn : n ≤ 9000000000000000000) (hr : RdU7 w A l) :
    Calls Tryz.prog 46 #[.slice A n c] w (Makes7 (err5 (rise6 (l.map (·.nm))) 9) w) := by
  have hmf := mkf
  have HR := Lib.hid hr
  have HL := Lib.hid hl
  clear hr hl
  go_enter Tryz.func46, Tryz.ntmps46
  go_wp2
  go_ret
  have bl := below_alloc (Below.refl w.heap.size w) (.cells #[.slice A n c] 22)
  refine ⟨_, _, rfl, ?_, bl⟩
  refine ⟨_, _, rfl, enters_of Tryz.func117 (by kernel_rfl) rfl, fun W hb => ?_⟩
  exact rise71_calls _ A c n l W ((hb.cell (p := ⟨_, 0, none⟩) (by simp)).trans (by simp)) HL.out hn (HR.out.later (below_next bl hb))

theorem Own7.put {w0 W : World} {B : Nat} {L : Row7} (h : Own7 w0 W B L) (s hh : ByteArray) (hs : s.size ≤ 12) (h2 : hh.size ≤ 12) (hf : (putE L s.data.toList hh.data.toList).length ≤ 12) :
    Calls Tryz.prog 48 #[.pointer (some ⟨B, 0, none⟩), .string s, .string hh] W fun e w' => e = .returned (.tuple #[]) ∧ Own7 w0 w' B (putE L s.data.toList hh.data.toList) ∧ Keeps7 W w' := by
  obtain ⟨p, hd, g1, g2, g3⟩ := h
  exact (dput_calls B p L s hh W hd hs h2 hf).mono fun e w' ⟨he, hg⟩ => ⟨he, Own7.goes hd g1 g2 g3 hg, hg.keeps hd⟩

set_option maxRecDepth 100000 in
set_option maxHeartbeats 4000000 in
theorem of7_calls (A : Option Addr) (c n : Nat) (l : List Us) (w : World) (hl : n = l.length) (hn : n ≤ 1000) (hr : RdU7 w A l) (ho : ∀ u ∈ l, u.Ok w) (hm : Len5 w) :
    Calls Tryz.prog 13 #[.slice A n c] w fun e w' => (ofE l ≠ 0 ∧ e = .returned (.tuple #[.pointer none, .int .i64 (ofE l)]) ∧ Below w.heap.size w w') ∨ (ofE l = 0 ∧ ∃ B, e = .returned (.tuple #[.pointer (some ⟨B, 0, none⟩), .int .i64 0]) ∧ Own7 w w' B (rowU l)) := by
  have HMB := Lib.hid (maybe7_calls A c n l w hl (by omega) hr ho hm)
  have HRI : Hid (∀ W, Below w.heap.size w W → Calls Tryz.prog 46 #[.slice A n c] W (Makes7 (err5 (rise6 (l.map (·.nm))) 9) W)) := fun W hb => rise7_calls A c n l W hl (by omega) (hr.later hb)
  have HFI : Hid (∀ W, Calls Tryz.prog 47 #[.int .i64 (n : Int)] W (Makes7 (err5 (decide ((l.length : Int) ≤ 12)) 7) W)) := fun W => by rw [← hl]; exact fit7_calls _ W
  have HR := Lib.hid hr
  have HL := Lib.hid hl
  have HZ : Hid (ofE l = 0 → Rise7 (rowU l) ∧ l.length ≤ 12 ∧ ∀ u ∈ l, u.nm.size ≤ 12 ∧ u.hs.size ≤ 12) := fun h => (ofE_zero h).2
  have HNW : Hid (∀ W, Calls Tryz.prog 29 #[] W fun e w' => e = .returned (.pointer (some ⟨W.heap.size, 0, none⟩)) ∧ w' = W.alloc (.cells #[.map none] 90)) := fun W => new7_calls W
  have HE : Hid (first7 [mayE l, err5 (rise6 (l.map (·.nm))) 9, err5 (decide ((l.length : Int) ≤ 12)) 7] = ofE l) := rfl
  clear hr ho hm hl
  generalize mayE l = e0 at *
  generalize err5 (rise6 (l.map (·.nm))) 9 = e1 at *
  generalize err5 (decide ((l.length : Int) ≤ 12)) 7 = e2 at *
  generalize ofE l = r at *
  go_enter Tryz.func13, Tryz.ntmps13
  go_wp2_with fail
  with_reducible refine HMB.out.mono ?_
  rintro e w1 ⟨g0, lb0, rfl, ha, hb⟩
  have HA0 := Lib.hid ha
  have HB1 := Lib.hid hb
  have HRI1 := Lib.hid (HRI.out w1 hb)
  clear ha hb HMB HRI
  go_wp2_with fail
  with_reducible refine HRI1.out.mono ?_
  rintro e w2 ⟨g1, lb1, rfl, ha, hb⟩
  have HA1 := Lib.hid ha
  have HA02 := Lib.hid (HA0.out.later hb)
  have HB2 := Lib.hid (below_next HB1.out hb)
  clear ha hb HRI1 HA0 HB1
  go_wp2_with fail
  with_reducible refine (HFI.out w2).mono ?_
  rintro e w3 ⟨g2, lb2, rfl, ha, hb⟩
  have HB3 := Lib.hid (below_next HB2.out hb)
  have hrow := askrow7_new w3 [(.func (.func g0) #[] lb0, e0), (.func (.func g1) #[] lb1, e1), (.func (.func g2) #[] lb2, e2)] 82 (by
    intro x hx
    simp only [List.mem_cons, List.not_mem_nil, or_false] at hx
    rcases hx with rfl | rfl | rfl
    · exact HA02.out.later hb
    · exact HA1.out.later hb
    · exact ha)
  have hf := first7_calls w3.heap.size 3 3 _ _ rfl (by decide) hrow
  have HF : Hid (Calls Tryz.prog 44 #[.slice (some ⟨w3.heap.size, 0, none⟩) 3 3] (w3.alloc (.cells #[.func (.func g0) #[] lb0, .func (.func g1) #[] lb1, .func (.func g2) #[] lb2] 82)) (Errs5 r (w3.alloc (.cells #[.func (.func g0) #[] lb0, .func (.func g1) #[] lb1, .func (.func g2) #[] lb2] 82)))) := by
    rw [← HE.out]; exact hf
  clear hf hrow ha hb HFI HA02 HA1 HE
  go_wp2_with fail
  with_reducible refine HF.out.mono ?_
  rintro e w4 ⟨rfl, hb⟩
  have HB4 := Lib.hid (below_next HB3.out (below_next (below_alloc (Below.refl w3.heap.size w3) _) hb))
  clear hb HF HB3 HB2
  by_cases h0 : r = 0
  case neg =>
    have h1 : (r != 0) = true := by simpa using h0
    have H0 := Lib.hid h0
    clear h0
    go_wp2
    go_ret2
    exact .inl ⟨H0.out, rfl, HB4.out⟩
  subst h0
  have hz := HZ.out rfl
  have HZ2 := Lib.hid hz
  clear hz HZ
  go_wp2_with fail
  with_reducible refine (HNW.out w4).mono ?_
  rintro e w5 ⟨rfl, rfl⟩
  have HO := Lib.hid (own7_new w4)
  generalize w4.alloc (.cells #[.map none] 90) = w5 at *
  generalize w4.heap.size = B at *
  clear HNW
  go_wp2
  go_loopg [7, 23] n (fun gg _ s23 wr => ∃ k : Nat, k ≤ n ∧ n - k ≤ gg ∧ s23 = .int .i64 k ∧ Hid (Own7 w4 wr B (rowU (l.take k))))
  case atStart => exact ⟨0, Nat.zero_le _, by omega, rfl, HO.out⟩
  case round =>
    obtain ⟨k, hk, hg, rfl, HW⟩ := hrel
    by_cases hlt : k < n
    · have hltz : (k : Int) < (n : Int) := by omega
      have hkl : k < l.length := HL.out ▸ hlt
      obtain ⟨b, off, rfl, hb, hc⟩ := (HR.out.later (below_next HB4.out HW.out.below)) (by intro e; rw [e] at hkl; exact absurd hkl (Nat.not_lt_zero _))
      have c0 : wr.cell? ⟨b, off + k * 5, none⟩ = some (.string l[k].nm) := hc k hkl 0 _ rfl
      have c1 : wr.cell? ⟨b, off + k * 5 + 1, none⟩ = some (.string l[k].hs) := hc k hkl 1 _ rfl
      have c2 : wr.cell? ⟨b, off + k * 5 + 2, none⟩ = some (.string l[k].ml) := hc k hkl 2 _ rfl
      have c3 : wr.cell? ⟨b, off + k * 5 + 3, none⟩ = some (.bool l[k].dis) := hc k hkl 3 _ rfl
      have c4 : wr.cell? ⟨b, off + k * 5 + 4, none⟩ = some (.slice l[k].ga l[k].gs.length l[k].gc) := hc k hkl 4 _ rfl
      have hp := put_next HZ2.out.1 hkl
      have HC := Lib.hid ((HW.out.later (below_alloc (Below.refl wr.heap.size wr) (.cells #[.string l[k].nm, .string l[k].hs, .string l[k].ml, .bool l[k].dis, .slice l[k].ga l[k].gs.length l[k].gc] 26))).put l[k].nm l[k].hs (HZ2.out.2.2 _ (List.getElem_mem hkl)).1 (HZ2.out.2.2 _ (List.getElem_mem hkl)).2 (by rw [hp]; unfold rowU; rw [List.length_map, List.length_take]; have := HZ2.out.2.1; omega))
      rw [hp] at HC
      obtain ⟨LN, hLN⟩ : ∃ LN, LN = rowU (l.take (k + 1)) := ⟨_, rfl⟩
      rw [← hLN] at HC
      have HLN := Lib.hid hLN
      clear hc hb hp hLN
      generalize l[k].nm = nm at *
      generalize l[k].hs = hs at *
      generalize l[k].ml = ml at *
      generalize l[k].dis = dis at *
      generalize l[k].ga = ga at *
      generalize l[k].gs.length = gl at *
      generalize l[k].gc = gc at *
      go_wp2_with (go_at_call 48; (with_reducible refine HC.out.mono ?_); rintro e w6 ⟨rfl, ho, _⟩; have HO6 := Lib.hid ho; clear ho)
      go_roundg (n - (k + 1))
      case measure => omega
      case rel => exact ⟨k + 1, by omega, by omega, by go_num, HLN.out ▸ HO6⟩
    · have hltz : ¬ (k : Int) < (n : Int) := by omega
      obtain rfl : k = n := by omega
      have hw := HW.out
      rw [List.take_of_length_le (by have := HL.out; omega)] at hw
      obtain ⟨p, q1, q2, q3, q4⟩ := hw
      have HF2 : Hid (Own7 w wr B (rowU l)) := ⟨p, q1, Nat.le_trans HB4.out.size q2, fun b hb => Nat.le_trans HB4.out.size (q3 b hb), below_next HB4.out q4⟩
      clear q1 q2 q3 q4 HW
      go_wp2
      go_ret2
      first | exact .inr ⟨by first | rfl | trivial, _, rfl, HF2.out⟩ | exact ⟨_, rfl, HF2.out⟩
end Go.Proofs.YtclnkboejbnfnaaGreatDoor

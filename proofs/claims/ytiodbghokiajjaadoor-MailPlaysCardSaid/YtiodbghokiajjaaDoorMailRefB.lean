/-
  Set, Rename and Find of the document's row.
  Conditions: texts of at most 1000 bytes; rows of at most 900 pairs.
-/
import Derived.Test.YtiodbghokiajjaaDoorMailRef
import Derived.Test.YtiodbghokiajjaaDoorRef5
import Derived.Test.YtiodbghokiajjaaDoorRefMail5
namespace Go.Proofs.YtiodbghokiajjaaDoor
open Go.RowKit Go.Maps

theorem tx7_nil : tx7 [] = ⟨#[]⟩ := rfl
theorem tx7_some {l : List UInt8} (h : l ≠ []) : ¬ (tx7 l).toList = [] ∧ (tx7 l).toList.isEmpty = false ∧ (tx7 l).size ≠ 0 := by
  have h1 : ¬ (tx7 l).toList = [] := by rw [Lib.toList_data, tx7_list]; exact h
  refine ⟨h1, by simpa using h1, fun e => h ?_⟩
  rw [tx7_size] at e
  exact List.eq_nil_of_length_eq_zero e
theorem fold9_tx (m : List UInt8) : (ByteArray.mk (fold5 m).toArray) = tx7 (fold5 m) := rfl

/-- A row that is an index's. -/
structure Good9 (L : Row7) : Prop where
  mir : ∃ M, Mirror9 L M
  all : ∀ x ∈ L, May9 x
  len : L.length ≤ 900
theorem Good9.rise {L : Row7} (h : Good9 L) : Rise7 L := by obtain ⟨M, hM⟩ := h.mir; exact hM.rl
theorem Good9.has_ne {L : Row7} (h : Good9 L) {n : List UInt8} (hn : hasE L n = true) : getE L n ≠ [] := (h.all _ (hasE_mem hn)).ne2
theorem Good9.own_ne {L : Row7} (h : Good9 L) {a : List UInt8} (ha : hasO L a = true) : ownO L a ≠ [] := (h.all _ (hasO_mem ha)).ne1
theorem mail5_ne {m : List UInt8} (h : mail5 m = true) : fold5 m ≠ [] := fun e => by
  have h1 := congrArg List.length e
  rw [fold5_length] at h1
  have h2 : m = [] := List.eq_nil_of_length_eq_zero h1
  rw [h2, mail5_nil] at h; cases h

set_option maxRecDepth 100000 in
set_option maxHeartbeats 1000000 in
theorem rfind9_calls (v : Value) (L : Row7) (m : ByteArray) (w : World) (hg : Good9 L) (hm : m.size ≤ 1000) (hu : Row9 L w v) :
    Calls Tryd.prog 19 #[v, .string m] w fun e w' => e = .returned (.tuple #[.string (tx7 (fiS9 L m.data.toList)), .int .i64 (fiE9 L m.data.toList)]) ∧ Below w.heap.size w w' := by
  have hnot : ∀ (x : Bool) (w : World), (Op.unary .not (.bool x)).run Tryd.prog w = .ok (.bool (!x)) w := fun _ _ => rfl
  have HM := Lib.hid (rmail_calls m w hm)
  have HO : Hid (∀ W, Row9 L W v → Calls Tryd.prog 29 #[v, .string (tx7 (fold5 m.data.toList))] W fun e w' => e = .returned (.string (tx7 (ownO L (fold5 m.data.toList)))) ∧ Below W.heap.size W w') := fun W hW => by
    have := rowner9_calls v L (tx7 (fold5 m.data.toList)) W (Nat.le_trans hg.len (by decide)) hg.mir hW
    rwa [tx7_list] at this
  have HU := Lib.hid hu
  obtain ⟨A, c, rfl⟩ := hu.shape
  unfold mailT at HM
  clear hu
  cases hb : mail5 m.data.toList with
  | false =>
    rw [hb] at HM
    have HM2 : Hid (Calls Tryd.prog 28 #[.string m] w fun e w' => e = .returned (.tuple #[.string ⟨#[]⟩, .bool false]) ∧ ∃ q, w' = w.drewN q) := HM.out
    have e1 : fiE9 L m.data.toList = 11 := by unfold fiE9; rw [hb]; rfl
    have e2 : fiS9 L m.data.toList = [] := by unfold fiS9; rw [e1]; rfl
    rw [e1, e2, tx7_nil]
    clear HM hb e1 e2 HO
    go_enter Tryd.func19, Tryd.ntmps19
    go_wp2_with fail
    with_reducible refine HM2.out.mono ?_
    rintro e w1 ⟨rfl, q, rfl⟩
    have HB := Lib.hid (below_drewN (Below.refl w.heap.size w) q)
    go_wp2
    go_ret2
    exact ⟨rfl, HB.out⟩
  | true =>
    rw [hb] at HM
    have HM2 : Hid (Calls Tryd.prog 28 #[.string m] w fun e w' => e = .returned (.tuple #[.string (tx7 (fold5 m.data.toList)), .bool true]) ∧ ∃ q, w' = w.drewN q) := HM.out
    clear HM
    cases ho : hasO L (fold5 m.data.toList) with
    | false =>
      have e1 : fiE9 L m.data.toList = 8 := by unfold fiE9; rw [hb, if_pos rfl, ho]; rfl
      have e2 : fiS9 L m.data.toList = [] := by unfold fiS9; rw [e1]; rfl
      rw [e1, e2, tx7_nil]
      rw [ownO_none ho, tx7_nil] at HO
      clear hb ho e1 e2
      generalize tx7 (fold5 m.data.toList) = f at *
      go_enter Tryd.func19, Tryd.ntmps19
      go_wp2_with fail
      with_reducible refine HM2.out.mono ?_
      rintro e w1 ⟨rfl, q, rfl⟩
      have HB := Lib.hid (below_drewN (Below.refl w.heap.size w) q)
      generalize w.drewN q = w1 at *
      have HO1 := Lib.hid (HO.out w1 (HU.out.later HB.out))
      clear HO HM2
      go_wp2_with fail
      with_reducible refine HO1.out.mono ?_
      rintro e w2 ⟨rfl, hb⟩
      have HB2 := Lib.hid (below_next HB.out hb)
      clear hb HO1
      go_wp2
      go_ret2
      exact ⟨rfl, HB2.out⟩
    | true =>
      have e1 : fiE9 L m.data.toList = 0 := by unfold fiE9; rw [hb, if_pos rfl, ho]; rfl
      have e2 : fiS9 L m.data.toList = ownO L (fold5 m.data.toList) := by unfold fiS9; rw [e1]; rfl
      obtain ⟨n1, n2, _⟩ := tx7_some (hg.own_ne ho)
      rw [e1, e2]
      clear hb ho e1 e2
      generalize tx7 (ownO L (fold5 m.data.toList)) = o at *
      generalize tx7 (fold5 m.data.toList) = f at *
      go_enter Tryd.func19, Tryd.ntmps19
      go_wp2_with fail
      with_reducible refine HM2.out.mono ?_
      rintro e w1 ⟨rfl, q, rfl⟩
      have HB := Lib.hid (below_drewN (Below.refl w.heap.size w) q)
      generalize w.drewN q = w1 at *
      have HO1 := Lib.hid (HO.out w1 (HU.out.later HB.out))
      clear HO HM2
      go_wp2_with fail
      with_reducible refine HO1.out.mono ?_
      rintro e w2 ⟨rfl, hb⟩
      have HB2 := Lib.hid (below_next HB.out hb)
      clear hb HO1
      go_wp2
      go_ret2
      exact ⟨rfl, HB2.out⟩

/-- A row and an error's number are told. -/
def RSet9 (x : Int) (L' : Row7) (w : World) (e : Ending) (w' : World) : Prop := ∃ v, e = .returned (.tuple #[v, .int .i64 x]) ∧ Row9 L' w' v ∧ Below w.heap.size w w'

set_option maxRecDepth 100000 in
set_option maxHeartbeats 2000000 in
theorem rset9_calls (v : Value) (L : Row7) (n m : ByteArray) (w : World) (hg : Good9 L) (hn : n.size ≤ 1000) (hm : m.size ≤ 1000) (hu : Row9 L w v) :
    Calls Tryd.prog 16 #[v, .string n, .string m] w (RSet9 (seE9 L n.data.toList m.data.toList) (seL9 L n.data.toList m.data.toList) w) := by
  have hnot : ∀ (x : Bool) (w : World), (Op.unary .not (.bool x)).run Tryd.prog w = .ok (.bool (!x)) w := fun _ _ => rfl
  have hl1 : L.length ≤ 1000 := Nat.le_trans hg.len (by decide)
  have HN := Lib.hid (rname_calls n w hn)
  have HM := Lib.hid (rmail_calls m w hm)
  have HU := Lib.hid hu
  have HO : Hid (∀ W, Row9 L W v → Calls Tryd.prog 29 #[v, .string (tx7 (fold5 m.data.toList))] W fun e w' => e = .returned (.string (tx7 (ownO L (fold5 m.data.toList)))) ∧ Below W.heap.size W w') := fun W hW => by
    have := rowner9_calls v L (tx7 (fold5 m.data.toList)) W hl1 hg.mir hW
    rwa [tx7_list] at this
  have HD : Hid (Calls Tryd.prog 10 #[v, .string n, .string ⟨#[]⟩] w fun e w' => ∃ v, e = .returned v ∧ Row9 (delE L n.data.toList) w' v ∧ Below w.heap.size w w') := rdrop9_calls v L n w hl1 hu
  have HP : Hid (mail5 m.data.toList = true → ∀ W, Row9 L W v → Calls Tryd.prog 10 #[v, .string n, .string (tx7 (fold5 m.data.toList))] W fun e w' => ∃ v, e = .returned v ∧ Row9 (putE L n.data.toList (fold5 m.data.toList)) w' v ∧ Below W.heap.size W w') := fun h W hW => by
    have := rput9_calls v L n (tx7 (fold5 m.data.toList)) W hl1 hg.rise (tx7_some (mail5_ne h)).2.2 hW
    rwa [tx7_list] at this
  obtain ⟨A, c, rfl⟩ := hu.shape
  unfold seL9
  unfold mailT at HM
  clear hu
  cases hb : name5 n.data.toList with
  | false =>
    rw [hb] at HN
    have e1 : seE9 L n.data.toList m.data.toList = 10 := by unfold seE9; rw [hb]; rfl
    rw [e1, if_neg (by decide)]
    clear hb e1 HM HO HD HP
    go_enter Tryd.func16, Tryd.ntmps16
    go_wp2_with fail
    with_reducible refine HN.out.mono ?_
    rintro e w1 ⟨rfl, rfl⟩
    go_wp2
    go_ret2
    exact ⟨_, rfl, HU.out, Below.refl _ _⟩
  | true =>
    rw [hb] at HN
    by_cases h0 : m.size = 0
    · obtain rfl : m = ⟨#[]⟩ := by
        obtain ⟨d⟩ := m
        obtain rfl : d = #[] := Array.eq_empty_of_size_eq_zero h0
        rfl
      have e1 : seE9 L n.data.toList (ByteArray.mk #[]).data.toList = 0 := by unfold seE9; rw [hb]; rfl
      rw [e1, if_pos rfl, if_pos (by rfl)]
      clear hb e1 HM HO HP
      go_enter Tryd.func16, Tryd.ntmps16
      go_wp2_with fail
      with_reducible refine HN.out.mono ?_
      rintro e w1 ⟨rfl, rfl⟩
      go_wp2_with fail
      with_reducible refine HD.out.mono ?_
      rintro e w2 ⟨v2, rfl, hr, hb⟩
      have HF := Lib.hid (And.intro hr hb)
      obtain ⟨A2, c2, rfl⟩ := hr.shape
      clear hr hb HD HN
      go_wp2
      go_ret2
      exact ⟨_, rfl, HF.out.1, HF.out.2⟩
    · have hne : ¬ m.toList = [] := fun e => h0 (by rw [← size_list, ← ByteArray.toList_eq, e]; rfl)
      have hne1 : ¬ m.data.toList = [] := fun e => h0 (by rw [← size_list, e]; rfl)
      have hne2 : m.toList.isEmpty = false := by simpa using hne
      rw [if_neg hne1]
      cases hc : mail5 m.data.toList with
      | false =>
        have e1 : seE9 L n.data.toList m.data.toList = 11 := by unfold seE9; rw [hb, if_pos rfl, if_neg hne1, hc]; rfl
        rw [e1, if_neg (by decide)]
        rw [hc] at HM
        have HM2 : Hid (Calls Tryd.prog 28 #[.string m] w fun e w' => e = .returned (.tuple #[.string ⟨#[]⟩, .bool false]) ∧ ∃ q, w' = w.drewN q) := HM.out
        clear hb e1 HM HO HD HP hc hne1
        go_enter Tryd.func16, Tryd.ntmps16
        go_wp2_with fail
        with_reducible refine HN.out.mono ?_
        rintro e w1 ⟨rfl, rfl⟩
        go_wp2_with fail
        with_reducible refine HM2.out.mono ?_
        rintro e w2 ⟨rfl, q, rfl⟩
        have HB := Lib.hid (below_drewN (Below.refl w1.heap.size w1) q)
        clear HN HM2
        go_wp2
        go_ret2
        exact ⟨_, rfl, HU.out.later HB.out, HB.out⟩
      | true =>
        rw [hc] at HM
        have HM2 : Hid (Calls Tryd.prog 28 #[.string m] w fun e w' => e = .returned (.tuple #[.string (tx7 (fold5 m.data.toList)), .bool true]) ∧ ∃ q, w' = w.drewN q) := HM.out
        have HP2 := Lib.hid (HP.out hc)
        have e0 : seE9 L n.data.toList m.data.toList = if bad9 L n.data.toList (fold5 m.data.toList) then 9 else 0 := by unfold seE9; rw [hb, if_pos rfl, if_neg hne1, hc, if_pos rfl]
        rw [e0]
        clear HM HP HD hc e0 hne1 hb
        cases hho : hasO L (fold5 m.data.toList) with
        | false =>
          have hbd : bad9 L n.data.toList (fold5 m.data.toList) = false := by unfold bad9; rw [hho]; rfl
          rw [hbd, if_neg (by decide), if_pos rfl]
          rw [ownO_none hho, tx7_nil] at HO
          clear hbd hho
          generalize tx7 (fold5 m.data.toList) = f at *
          go_enter Tryd.func16, Tryd.ntmps16
          go_wp2_with fail
          with_reducible refine HN.out.mono ?_
          rintro e w1 ⟨rfl, rfl⟩
          go_wp2_with fail
          with_reducible refine HM2.out.mono ?_
          rintro e w2 ⟨rfl, q, rfl⟩
          have HB := Lib.hid (below_drewN (Below.refl w1.heap.size w1) q)
          generalize w1.drewN q = w2 at *
          have HO2 := Lib.hid (HO.out w2 (HU.out.later HB.out))
          clear HN HM2 HO
          go_wp2_with fail
          with_reducible refine HO2.out.mono ?_
          rintro e w3 ⟨rfl, hb⟩
          have HB3 := Lib.hid (below_next HB.out hb)
          have HP3 := Lib.hid (HP2.out w3 (HU.out.later HB3.out))
          clear hb HO2 HP2 HB
          go_wp2_with fail
          with_reducible refine HP3.out.mono ?_
          rintro e w4 ⟨v2, rfl, hr, hb⟩
          have HF := Lib.hid (And.intro hr (below_next HB3.out hb))
          obtain ⟨A2, c2, rfl⟩ := hr.shape
          clear hr hb HP3
          go_wp2
          go_ret2
          exact ⟨_, rfl, HF.out.1, HF.out.2⟩
        | true =>
          obtain ⟨t1, t2, _⟩ := tx7_some (hg.own_ne hho)
          by_cases ho : ownO L (fold5 m.data.toList) = n.data.toList
          · have hbd : bad9 L n.data.toList (fold5 m.data.toList) = false := by unfold bad9; rw [ho]; simp
            rw [hbd, if_neg (by decide), if_pos rfl]
            rw [ho, tx7_back] at HO t1 t2
            have n1 : (n.toList != n.toList) = false := by simp
            have n2 : (n.toList == n.toList) = true := by simp
            clear hbd hho ho
            generalize tx7 (fold5 m.data.toList) = f at *
            go_enter Tryd.func16, Tryd.ntmps16
            go_wp2_with fail
            with_reducible refine HN.out.mono ?_
            rintro e w1 ⟨rfl, rfl⟩
            go_wp2_with fail
            with_reducible refine HM2.out.mono ?_
            rintro e w2 ⟨rfl, q, rfl⟩
            have HB := Lib.hid (below_drewN (Below.refl w1.heap.size w1) q)
            generalize w1.drewN q = w2 at *
            have HO2 := Lib.hid (HO.out w2 (HU.out.later HB.out))
            clear HN HM2 HO
            go_wp2_with fail
            with_reducible refine HO2.out.mono ?_
            rintro e w3 ⟨rfl, hb⟩
            have HB3 := Lib.hid (below_next HB.out hb)
            have HP3 := Lib.hid (HP2.out w3 (HU.out.later HB3.out))
            clear hb HO2 HP2 HB
            go_wp2_with fail
            with_reducible refine HP3.out.mono ?_
            rintro e w4 ⟨v2, rfl, hr, hb⟩
            have HF := Lib.hid (And.intro hr (below_next HB3.out hb))
            obtain ⟨A2, c2, rfl⟩ := hr.shape
            clear hr hb HP3
            go_wp2
            go_ret2
            exact ⟨_, rfl, HF.out.1, HF.out.2⟩
          · have hbd : bad9 L n.data.toList (fold5 m.data.toList) = true := by unfold bad9; rw [hho, Bool.true_and, decide_eq_true ho]
            rw [hbd, if_pos rfl, if_neg (by decide)]
            have n2 := tx9_ne ho
            have n1 : ¬ (tx7 (ownO L (fold5 m.data.toList))).toList = n.toList := by simpa using n2
            clear hbd hho ho HP2
            generalize tx7 (ownO L (fold5 m.data.toList)) = o at *
            generalize tx7 (fold5 m.data.toList) = f at *
            go_enter Tryd.func16, Tryd.ntmps16
            go_wp2_with fail
            with_reducible refine HN.out.mono ?_
            rintro e w1 ⟨rfl, rfl⟩
            go_wp2_with fail
            with_reducible refine HM2.out.mono ?_
            rintro e w2 ⟨rfl, q, rfl⟩
            have HB := Lib.hid (below_drewN (Below.refl w1.heap.size w1) q)
            generalize w1.drewN q = w2 at *
            have HO2 := Lib.hid (HO.out w2 (HU.out.later HB.out))
            clear HN HM2 HO
            go_wp2_with fail
            with_reducible refine HO2.out.mono ?_
            rintro e w3 ⟨rfl, hb⟩
            have HB3 := Lib.hid (below_next HB.out hb)
            clear hb HO2 HB
            go_wp2
            go_ret2
            exact ⟨_, rfl, HU.out.later HB3.out, HB3.out⟩

set_option maxRecDepth 100000 in
set_option maxHeartbeats 2000000 in
theorem rrename9_calls (v : Value) (L : Row7) (o n : ByteArray) (w : World) (hg : Good9 L) (hn : n.size ≤ 1000) (hu : Row9 L w v) :
    Calls Tryd.prog 12 #[v, .string o, .string n] w (RSet9 (reE9 L o.data.toList n.data.toList) (reL9 L o.data.toList n.data.toList) w) := by
  have hnot : ∀ (x : Bool) (w : World), (Op.unary .not (.bool x)).run Tryd.prog w = .ok (.bool (!x)) w := fun _ _ => rfl
  have hl1 : L.length ≤ 1000 := Nat.le_trans hg.len (by decide)
  have HN := Lib.hid (rname_calls n w hn)
  have HU := Lib.hid hu
  have HO1 : Hid (∀ W, Row9 L W v → Calls Tryd.prog 9 #[v, .string o] W fun e w' => e = .returned (.string (tx7 (getE L o.data.toList))) ∧ Below W.heap.size W w') := fun W hW => rof9_calls v L o W hl1 hg.rise hW
  have HO2 : Hid (∀ W, Row9 L W v → Calls Tryd.prog 9 #[v, .string n] W fun e w' => e = .returned (.string (tx7 (getE L n.data.toList))) ∧ Below W.heap.size W w') := fun W hW => rof9_calls v L n W hl1 hg.rise hW
  have HD : Hid (∀ W, Row9 L W v → Calls Tryd.prog 10 #[v, .string o, .string ⟨#[]⟩] W fun e w' => ∃ v, e = .returned v ∧ Row9 (delE L o.data.toList) w' v ∧ Below W.heap.size W w') := fun W hW => rdrop9_calls v L o W hl1 hW
  have HP : Hid (hasE L o.data.toList = true → ∀ W v2, Row9 (delE L o.data.toList) W v2 → Calls Tryd.prog 10 #[v2, .string n, .string (tx7 (getE L o.data.toList))] W fun e w' => ∃ v, e = .returned v ∧ Row9 (putE (delE L o.data.toList) n.data.toList (getE L o.data.toList)) w' v ∧ Below W.heap.size W w') := fun h W v2 hW => by
    have := rput9_calls v2 (delE L o.data.toList) n (tx7 (getE L o.data.toList)) W (Nat.le_trans (List.length_filter_le _ _) hl1) (rise_del hg.rise _) (tx7_some (hg.has_ne h)).2.2 hW
    rwa [tx7_list] at this
  obtain ⟨A, c, rfl⟩ := hu.shape
  unfold reL9
  clear hu
  cases hb : name5 n.data.toList with
  | false =>
    rw [hb] at HN
    have e1 : reE9 L o.data.toList n.data.toList = 10 := by unfold reE9; rw [hb]; rfl
    rw [e1, if_neg (by decide)]
    clear hb e1 HO1 HO2 HD HP
    go_enter Tryd.func12, Tryd.ntmps12
    go_wp2_with fail
    with_reducible refine HN.out.mono ?_
    rintro e w1 ⟨rfl, rfl⟩
    go_wp2
    go_ret2
    exact ⟨_, rfl, HU.out, Below.refl _ _⟩
  | true =>
    rw [hb] at HN
    cases hh : hasE L o.data.toList with
    | false =>
      have e1 : reE9 L o.data.toList n.data.toList = 8 := by unfold reE9; rw [hb, if_pos rfl, hh]; rfl
      rw [e1, if_neg (by decide)]
      rw [getE_none hh, tx7_nil] at HO1
      have HO1' := Lib.hid (HO1.out w HU.out)
      clear hb e1 HO1 HO2 HD HP hh
      go_enter Tryd.func12, Tryd.ntmps12
      go_wp2_with fail
      with_reducible refine HN.out.mono ?_
      rintro e w1 ⟨rfl, rfl⟩
      go_wp2_with fail
      with_reducible refine HO1'.out.mono ?_
      rintro e w2 ⟨rfl, hb⟩
      have HB := Lib.hid hb
      clear hb HN HO1'
      go_wp2
      go_ret2
      exact ⟨_, rfl, HU.out.later HB.out, HB.out⟩
    | true =>
      obtain ⟨t1, t2, _⟩ := tx7_some (hg.has_ne hh)
      have HP2 := Lib.hid (HP.out hh)
      have e0 : reE9 L o.data.toList n.data.toList = if hasE L n.data.toList && decide (n.data.toList ≠ o.data.toList) then 9 else 0 := by unfold reE9; rw [hb, if_pos rfl, hh, if_pos rfl]
      rw [e0]
      have HO1' := Lib.hid (HO1.out w HU.out)
      clear hb HP HO1 e0
      cases hx : hasE L n.data.toList with
      | false =>
        rw [Bool.false_and, if_neg (by decide), if_pos rfl]
        rw [getE_none hx, tx7_nil] at HO2
        clear hx hh
        generalize tx7 (getE L o.data.toList) = a at *
        go_enter Tryd.func12, Tryd.ntmps12
        go_wp2_with fail
        with_reducible refine HN.out.mono ?_
        rintro e w1 ⟨rfl, rfl⟩
        go_wp2_with fail
        with_reducible refine HO1'.out.mono ?_
        rintro e w2 ⟨rfl, hb⟩
        have HB := Lib.hid hb
        have HO3 := Lib.hid (HO2.out w2 (HU.out.later hb))
        clear hb HN HO1' HO2
        go_wp2_with fail
        with_reducible refine HO3.out.mono ?_
        rintro e w3 ⟨rfl, hb⟩
        have HB3 := Lib.hid (below_next HB.out hb)
        have HD3 := Lib.hid (HD.out w3 (HU.out.later HB3.out))
        clear hb HO3 HD
        go_wp2_with fail
        with_reducible refine HD3.out.mono ?_
        rintro e w4 ⟨v2, rfl, hr, hb⟩
        have HB4 := Lib.hid (below_next HB3.out hb)
        have HP3 := Lib.hid (HP2.out w4 v2 hr)
        obtain ⟨A2, c2, rfl⟩ := hr.shape
        clear hr hb HD3 HP2
        go_wp2_with fail
        with_reducible refine HP3.out.mono ?_
        rintro e w5 ⟨v3, rfl, hr, hb⟩
        have HF := Lib.hid (And.intro hr (below_next HB4.out hb))
        obtain ⟨A3, c3, rfl⟩ := hr.shape
        clear hr hb HP3
        go_wp2
        go_ret2
        exact ⟨_, rfl, HF.out.1, HF.out.2⟩
      | true =>
        obtain ⟨u1, u2, _⟩ := tx7_some (hg.has_ne hx)
        by_cases hno : n.data.toList = o.data.toList
        · obtain rfl : n = o := by rw [← tx7_back n, hno, tx7_back]
          rw [decide_eq_false (fun h => h rfl), Bool.and_false, if_neg (by decide), if_pos rfl]
          have n1 : (n.toList != n.toList) = false := by simp
          have n2 : (n.toList == n.toList) = true := by simp
          clear hx hh hno
          generalize tx7 (getE L n.data.toList) = a at *
          go_enter Tryd.func12, Tryd.ntmps12
          go_wp2_with fail
          with_reducible refine HN.out.mono ?_
          rintro e w1 ⟨rfl, rfl⟩
          go_wp2_with fail
          with_reducible refine HO1'.out.mono ?_
          rintro e w2 ⟨rfl, hb⟩
          have HB := Lib.hid hb
          have HO3 := Lib.hid (HO2.out w2 (HU.out.later hb))
          clear hb HN HO1' HO2
          go_wp2_with fail
          with_reducible refine HO3.out.mono ?_
          rintro e w3 ⟨rfl, hb⟩
          have HB3 := Lib.hid (below_next HB.out hb)
          have HD3 := Lib.hid (HD.out w3 (HU.out.later HB3.out))
          clear hb HO3 HD
          go_wp2_with fail
          with_reducible refine HD3.out.mono ?_
          rintro e w4 ⟨v2, rfl, hr, hb⟩
          have HB4 := Lib.hid (below_next HB3.out hb)
          have HP3 := Lib.hid (HP2.out w4 v2 hr)
          obtain ⟨A2, c2, rfl⟩ := hr.shape
          clear hr hb HD3 HP2
          go_wp2_with fail
          with_reducible refine HP3.out.mono ?_
          rintro e w5 ⟨v3, rfl, hr, hb⟩
          have HF := Lib.hid (And.intro hr (below_next HB4.out hb))
          obtain ⟨A3, c3, rfl⟩ := hr.shape
          clear hr hb HP3
          go_wp2
          go_ret2
          exact ⟨_, rfl, HF.out.1, HF.out.2⟩
        · rw [decide_eq_true hno, Bool.and_true, if_pos rfl, if_neg (by decide)]
          have n2 : (n.toList == o.toList) = false := by rw [Lib.toList_data, Lib.toList_data]; simpa using hno
          have n1 : ¬ n.toList = o.toList := by simpa using n2
          clear hx hh hno HP2 HD
          generalize tx7 (getE L o.data.toList) = a at *
          generalize tx7 (getE L n.data.toList) = a2 at *
          go_enter Tryd.func12, Tryd.ntmps12
          go_wp2_with fail
          with_reducible refine HN.out.mono ?_
          rintro e w1 ⟨rfl, rfl⟩
          go_wp2_with fail
          with_reducible refine HO1'.out.mono ?_
          rintro e w2 ⟨rfl, hb⟩
          have HB := Lib.hid hb
          have HO3 := Lib.hid (HO2.out w2 (HU.out.later hb))
          clear hb HN HO1' HO2
          go_wp2_with fail
          with_reducible refine HO3.out.mono ?_
          rintro e w3 ⟨rfl, hb⟩
          have HB3 := Lib.hid (below_next HB.out hb)
          clear hb HO3
          go_wp2
          go_ret2
          exact ⟨_, rfl, HU.out.later HB3.out, HB3.out⟩
end Go.Proofs.YtiodbghokiajjaaDoor

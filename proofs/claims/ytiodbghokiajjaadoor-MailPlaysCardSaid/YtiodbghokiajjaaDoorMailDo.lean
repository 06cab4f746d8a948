/-
  Set, Rename and Copy of the index: what they tell, and what it has then.
  Conditions: texts are no longer than they may be.
-/
import Derived.Test.YtiodbghokiajjaaDoorMailPut
namespace Go.Proofs.YtiodbghokiajjaaDoor
open Go.RowKit Go.Maps Go.Shelf

theorem Goes9.after {w w1 w' : World} {B : Nat} {p q : Option Nat} {L' : Row7} (ht : Turn9 B p q w w1) (h : Goes9 w1 B p q L' w') : Goes9 w B p q L' w' := by
  obtain ⟨p', q', M', hd, hp, hq, hu⟩ := h
  exact ⟨p', q', M', hd, fun b e => (hp b e).imp id (fun h => Nat.le_trans ht.size h), fun b e => (hq b e).imp id (fun h => Nat.le_trans ht.size h), Turns.next ht hu (fun i _ h => h)⟩

/-- Has another name that address? -/
def bad9 (L : Row7) (n a : List UInt8) : Bool := hasO L a && decide (ownO L a ≠ n)
/-- What Set tells, and what there is then. -/
def seE9 (L : Row7) (n m : List UInt8) : Int := if name5 n then (if m = [] then 0 else if mail5 m then (if bad9 L n (fold5 m) then 9 else 0) else 11) else 10
def seL9 (L : Row7) (n m : List UInt8) : Row7 := if seE9 L n m = 0 then (if m = [] then delE L n else putE L n (fold5 m)) else L
/-- What Rename tells, and what there is then. -/
def reE9 (L : Row7) (o n : List UInt8) : Int := if name5 n then (if hasE L o then (if hasE L n && decide (n ≠ o) then 9 else 0) else 8) else 10
def reL9 (L : Row7) (o n : List UInt8) : Row7 := if reE9 L o n = 0 then putE (delE L o) n (getE L o) else L

theorem free9 {L M : Row7} (h : Mirror9 L M) {n a : List UInt8} (hb : bad9 L n a = false) : hasO (delE L n) a = false := by
  cases hd : hasO (delE L n) a
  · rfl
  · obtain ⟨h1, h2⟩ := mem_del.1 (hasO_mem hd)
    have h3 : hasO L a = true := mem_hasO h1
    have h4 : ownO L a = ownO (delE L n) a := h.own h1
    unfold bad9 at hb
    rw [h3, Bool.true_and, decide_eq_false_iff_not] at hb
    have h5 : ownO L a = n := by
      by_cases e : ownO L a = n
      · exact e
      · exact absurd e hb
    exact absurd (h4.symm.trans h5) h2
theorem free9b {L M : Row7} (h : Mirror9 L M) {o n : List UInt8} (ho : hasE L o = true) : hasO (delE (delE L o) n) (getE L o) = false := by
  cases hd : hasO (delE (delE L o) n) (getE L o)
  · rfl
  · obtain ⟨h1, _⟩ := mem_del.1 (hasO_mem hd)
    obtain ⟨h1, h2⟩ := mem_del.1 h1
    exact absurd (h.one h1 (hasE_mem ho)) h2
theorem put_le9 {L : Row7} (hr : Rise7 L) (n a : List UInt8) : (putE L n a).length ≤ L.length + 1 := by
  rw [put_length hr]; split <;> omega
theorem tx7_size (l : List UInt8) : (tx7 l).size = l.length := by rw [← size_list, tx7_list]
theorem fold9_list (l : List UInt8) : (ByteArray.mk (fold5 l).toArray).data.toList = fold5 l := by simp

set_option maxRecDepth 100000 in
set_option maxHeartbeats 2000000 in
theorem set9_calls (B : Nat) (p q : Option Nat) (L M : Row7) (n m : ByteArray) (w : World) (h : Idx9 w B p q L M) (hn : n.size ≤ 9223372036854775807) (hmz : m.size ≤ 9223372036854775807) (hl : L.length < 100) (h5 : Len5 w) :
    Calls Tryd.prog 15 #[.pointer (some ⟨B, 0, none⟩), .string n, .string m] w fun e w' => e = .returned (.int .i64 (seE9 L n.data.toList m.data.toList)) ∧ Goes9 w B p q (seL9 L n.data.toList m.data.toList) w' := by
  have hn' : n.size ≤ maxLen := Nat.le_trans hn (by decide)
  have HN := Lib.hid (Name_calls n w hn)
  have HI := Lib.hid h
  unfold seL9
  cases hb : name5 n.data.toList with
  | false =>
    rw [hb] at HN
    have HN2 : Hid (Calls Tryd.prog 24 #[.string n] w (Errs5 10 w)) := HN.out
    have e1 : seE9 L n.data.toList m.data.toList = 10 := by unfold seE9; rw [hb]; rfl
    rw [e1, if_neg (by decide)]
    clear HN hb h e1
    go_enter Tryd.func15, Tryd.ntmps15
    go_wp2_with fail
    with_reducible refine HN2.out.mono ?_
    rintro e w1 ⟨rfl, hb⟩
    have HB := Lib.hid hb
    clear hb HN2
    go_wp2
    go_ret
    exact ⟨rfl, Goes9.still HI.out HB.out⟩
  | true =>
    rw [hb] at HN
    have HN2 : Hid (Calls Tryd.prog 24 #[.string n] w (Errs5 0 w)) := HN.out
    have HNM := Lib.hid hb
    clear HN
    by_cases h0 : m.size = 0
    · obtain rfl : m = ⟨#[]⟩ := by
        obtain ⟨d⟩ := m
        obtain rfl : d = #[] := Array.eq_empty_of_size_eq_zero h0
        rfl
      have e1 : seE9 L n.data.toList (ByteArray.mk #[]).data.toList = 0 := by unfold seE9; rw [hb]; rfl
      rw [e1, if_pos rfl, if_pos (by rfl)]
      have HD : Hid (∀ W, Idx9 W B p q L M → Calls Tryd.prog 11 #[.pointer (some ⟨B, 0, none⟩), .string n] W fun e w' => e = .returned (.bool (hasE L n.data.toList)) ∧ (∃ M', Idx9 w' B p q (delE L n.data.toList) M') ∧ Turn9 B p q W w') := fun W hW => drop9_calls B p q L M n W hW hn'
      clear hb h e1 hmz
      generalize hasE L n.data.toList = r at *
      go_enter Tryd.func15, Tryd.ntmps15
      go_wp2_with fail
      with_reducible refine HN2.out.mono ?_
      rintro e w1 ⟨rfl, hb⟩
      have HB := Lib.hid hb
      have HD1 := Lib.hid (HD.out w1 (HI.out.later hb))
      clear hb HN2 HD
      go_wp2_with fail
      with_reducible refine HD1.out.mono ?_
      rintro e w2 ⟨rfl, ⟨M2, hi⟩, ht⟩
      have HF : Hid (Goes9 w B p q (delE L n.data.toList) w2) := Goes9.ahead HB.out ⟨p, q, M2, hi, (fun _ e => .inl e), (fun _ e => .inl e), ht⟩
      clear hi ht HD1
      go_wp2
      go_ret
      exact ⟨rfl, HF.out⟩
    · have hne : ¬ m.toList = [] := fun e => h0 (by rw [← size_list, ← ByteArray.toList_eq, e]; rfl)
      have hne1 : ¬ m.data.toList = [] := fun e => h0 (by rw [← size_list, e]; rfl)
      have hne2 : m.toList.isEmpty = false := by simpa using hne
      have HM : Hid (∀ W, Len5 W → Calls Tryd.prog 27 #[.string m] W (Mails5 (mail5 m.data.toList) (mailT m.data.toList) W)) := fun W hW => mail_calls m W hmz hW
      have H5 := Lib.hid h5
      cases hc : mail5 m.data.toList with
      | false =>
        have e1 : seE9 L n.data.toList m.data.toList = 11 := by unfold seE9; rw [hb, if_pos rfl, if_neg hne1, hc]; rfl
        rw [e1, if_neg (by decide)]
        unfold mailT at HM
        rw [hc] at HM
        have HM2 : Hid (∀ W, Len5 W → Calls Tryd.prog 27 #[.string m] W fun e w' => e = .returned (.tuple #[.string ⟨#[]⟩, .int .i64 11]) ∧ Below W.heap.size W w') := HM.out
        clear HM hb h e1 hmz hc h5 hne1
        go_enter Tryd.func15, Tryd.ntmps15
        go_wp2_with fail
        with_reducible refine HN2.out.mono ?_
        rintro e w1 ⟨rfl, hb⟩
        have HB := Lib.hid hb
        have HM1 := Lib.hid (HM2.out w1 (H5.out.later hb))
        clear hb HN2 HM2
        go_wp2_with fail
        with_reducible refine HM1.out.mono ?_
        rintro e w2 ⟨rfl, hb⟩
        have HF := Lib.hid (below_next HB.out hb)
        clear hb HM1
        go_wp2
        go_ret
        exact ⟨rfl, Goes9.still HI.out HF.out⟩
      | true =>
        unfold mailT at HM
        rw [hc] at HM
        have HM2 : Hid (∀ W, Len5 W → Calls Tryd.prog 27 #[.string m] W fun e w' => e = .returned (.tuple #[.string ⟨(fold5 m.data.toList).toArray⟩, .int .i64 0]) ∧ Below W.heap.size W w') := HM.out
        have hfz : (ByteArray.mk (fold5 m.data.toList).toArray).size ≤ maxLen := by
          show (fold5 m.data.toList).toArray.size ≤ _
          rw [List.size_toArray, fold5_length, size_list]; exact Nat.le_trans hmz (by decide)
        have HLK : Hid (∀ W, Idx9 W B p q L M → (Instr.lookup 52 (.map q) (.string ⟨(fold5 m.data.toList).toArray⟩) true).run Tryd.prog W = .ok (.tuple #[.string (tx7 (ownO L (fold5 m.data.toList))), .bool (hasO L (fold5 m.data.toList))]) W) := fun W hW => by
          have := look9 hW.mapq ⟨(fold5 m.data.toList).toArray⟩ hfz
          rw [fold9_list, hW.mir.get, hW.mir.has] at this
          exact this
        have e0 : seE9 L n.data.toList m.data.toList = if bad9 L n.data.toList (fold5 m.data.toList) then 9 else 0 := by unfold seE9; rw [hb, if_pos rfl, if_neg hne1, hc, if_pos rfl]
        have HP : Hid (bad9 L n.data.toList (fold5 m.data.toList) = false → ∀ W, Below w.heap.size w W → Calls Tryd.prog 25 #[.pointer (some ⟨B, 0, none⟩), .string n, .string ⟨(fold5 m.data.toList).toArray⟩] W fun e w' => e = .returned (.tuple #[]) ∧ Goes9 w B p q (putE L n.data.toList (fold5 m.data.toList)) w') := fun hbd W hW => by
          have hfr := free9 h.mir hbd
          have := put9_calls B p q L M n ⟨(fold5 m.data.toList).toArray⟩ W (h.later hW) (by rw [fold9_list]; exact May9.of hb hc) (by rw [fold9_list]; exact hfr) (by rw [fold9_list]; exact Nat.le_trans (put_le9 h.rise _ _) hl)
          rw [fold9_list] at this
          exact this.mono fun e w' ⟨he, hg⟩ => ⟨he, hg.ahead hW⟩
        rw [if_neg hne1, e0]
        clear HM e0 hfz h5 hc
        cases hho : hasO L (fold5 m.data.toList) with
        | false =>
          have hbd : bad9 L n.data.toList (fold5 m.data.toList) = false := by unfold bad9; rw [hho]; rfl
          have HP2 := Lib.hid (HP.out hbd)
          rw [hbd, if_neg (by decide), if_pos rfl]
          rw [hho] at HLK
          clear HP hbd hho hb h hmz hne1
          generalize tx7 (ownO L (fold5 m.data.toList)) = o at *
          generalize (⟨(fold5 m.data.toList).toArray⟩ : ByteArray) = f at *
          go_enter Tryd.func15, Tryd.ntmps15
          go_wp2_with fail
          with_reducible refine HN2.out.mono ?_
          rintro e w1 ⟨rfl, hb⟩
          have HB := Lib.hid hb
          have HM1 := Lib.hid (HM2.out w1 (H5.out.later hb))
          clear hb HN2 HM2
          go_wp2_with fail
          with_reducible refine HM1.out.mono ?_
          rintro e w2 ⟨rfl, hb⟩
          have hb2 := below_next HB.out hb
          have l1 := HLK.out w2 (HI.out.later hb2)
          have c1 := (HI.out.later hb2).cell1
          have HP3 := Lib.hid (HP2.out w2 hb2)
          clear hb HM1 HLK HP2 hb2
          go_wp2_with fail
          with_reducible refine HP3.out.mono ?_
          rintro e w3 ⟨rfl, hg⟩
          have HG := Lib.hid hg
          clear hg HP3 l1 c1
          go_wp2
          go_ret
          exact ⟨rfl, HG.out⟩
        | true =>
          rw [hho] at HLK
          by_cases ho : ownO L (fold5 m.data.toList) = n.data.toList
          · have hbd : bad9 L n.data.toList (fold5 m.data.toList) = false := by unfold bad9; rw [ho]; simp
            have HP2 := Lib.hid (HP.out hbd)
            rw [hbd, if_neg (by decide), if_pos rfl]
            rw [ho, tx7_back] at HLK
            have n1 : (n.toList != n.toList) = false := by simp
            have n2 : (n.toList == n.toList) = true := by simp
            clear HP hbd hho hb h hmz ho hne1
            generalize (⟨(fold5 m.data.toList).toArray⟩ : ByteArray) = f at *
            go_enter Tryd.func15, Tryd.ntmps15
            go_wp2_with fail
            with_reducible refine HN2.out.mono ?_
            rintro e w1 ⟨rfl, hb⟩
            have HB := Lib.hid hb
            have HM1 := Lib.hid (HM2.out w1 (H5.out.later hb))
            clear hb HN2 HM2
            go_wp2_with fail
            with_reducible refine HM1.out.mono ?_
            rintro e w2 ⟨rfl, hb⟩
            have hb2 := below_next HB.out hb
            have l1 := HLK.out w2 (HI.out.later hb2)
            have c1 := (HI.out.later hb2).cell1
            have HP3 := Lib.hid (HP2.out w2 hb2)
            clear hb HM1 HLK HP2 hb2
            go_wp2_with fail
            with_reducible refine HP3.out.mono ?_
            rintro e w3 ⟨rfl, hg⟩
            have HG := Lib.hid hg
            clear hg HP3 l1 c1
            go_wp2
            go_ret
            exact ⟨rfl, HG.out⟩
          · have hbd : bad9 L n.data.toList (fold5 m.data.toList) = true := by unfold bad9; rw [hho, Bool.true_and, decide_eq_true ho]
            rw [hbd, if_pos rfl, if_neg (by decide)]
            have n1 : ¬ (tx7 (ownO L (fold5 m.data.toList))).toList = n.toList := by
              rw [Lib.toList_data, Lib.toList_data, tx7_list]; exact ho
            have n2 : ((tx7 (ownO L (fold5 m.data.toList))).toList == n.toList) = false := by simpa using n1
            clear HP hbd hho hb h hmz ho hne1
            generalize tx7 (ownO L (fold5 m.data.toList)) = o at *
            generalize (⟨(fold5 m.data.toList).toArray⟩ : ByteArray) = f at *
            go_enter Tryd.func15, Tryd.ntmps15
            go_wp2_with fail
            with_reducible refine HN2.out.mono ?_
            rintro e w1 ⟨rfl, hb⟩
            have HB := Lib.hid hb
            have HM1 := Lib.hid (HM2.out w1 (H5.out.later hb))
            clear hb HN2 HM2
            go_wp2_with fail
            with_reducible refine HM1.out.mono ?_
            rintro e w2 ⟨rfl, hb⟩
            have hb2 := below_next HB.out hb
            have l1 := HLK.out w2 (HI.out.later hb2)
            have c1 := (HI.out.later hb2).cell1
            have HF := Lib.hid hb2
            clear hb HM1 HLK hb2
            go_wp2
            go_ret
            exact ⟨rfl, Goes9.still HI.out HF.out⟩

set_option maxRecDepth 100000 in
set_option maxHeartbeats 2000000 in
theorem rename9_calls (B : Nat) (p q : Option Nat) (L M : Row7) (o n : ByteArray) (w : World) (h : Idx9 w B p q L M) (ho : o.size ≤ 9223372036854775807) (hn : n.size ≤ 9223372036854775807) :
    Calls Tryd.prog 13 #[.pointer (some ⟨B, 0, none⟩), .string o, .string n] w fun e w' => e = .returned (.int .i64 (reE9 L o.data.toList n.data.toList)) ∧ Goes9 w B p q (reL9 L o.data.toList n.data.toList) w' := by
  have hn' : n.size ≤ maxLen := Nat.le_trans hn (by decide)
  have ho' : o.size ≤ maxLen := Nat.le_trans ho (by decide)
  have HN := Lib.hid (Name_calls n w hn)
  have HI := Lib.hid h
  have HLO : Hid (∀ W, Idx9 W B p q L M → (Instr.lookup 52 (.map p) (.string o) true).run Tryd.prog W = .ok (.tuple #[.string (tx7 (getE L o.data.toList)), .bool (hasE L o.data.toList)]) W) := fun W hW => look9 hW.mapp o ho'
  have HLN : Hid (∀ W, Idx9 W B p q L M → (Instr.lookup 52 (.map p) (.string n) true).run Tryd.prog W = .ok (.tuple #[.string (tx7 (getE L n.data.toList)), .bool (hasE L n.data.toList)]) W) := fun W hW => look9 hW.mapp n hn'
  unfold reL9
  cases hb : name5 n.data.toList with
  | false =>
    rw [hb] at HN
    have HN2 : Hid (Calls Tryd.prog 24 #[.string n] w (Errs5 10 w)) := HN.out
    have e1 : reE9 L o.data.toList n.data.toList = 10 := by unfold reE9; rw [hb]; rfl
    rw [e1, if_neg (by decide)]
    clear HN hb h e1 HLO HLN
    go_enter Tryd.func13, Tryd.ntmps13
    go_wp2_with fail
    with_reducible refine HN2.out.mono ?_
    rintro e w1 ⟨rfl, hb⟩
    have HB := Lib.hid hb
    clear hb HN2
    go_wp2
    go_ret
    exact ⟨rfl, Goes9.still HI.out HB.out⟩
  | true =>
    rw [hb] at HN
    have HN2 : Hid (Calls Tryd.prog 24 #[.string n] w (Errs5 0 w)) := HN.out
    clear HN
    have hnot : ∀ (x : Bool) (w : World), (Op.unary .not (.bool x)).run Tryd.prog w = .ok (.bool (!x)) w := fun _ _ => rfl
    cases hh : hasE L o.data.toList with
    | false =>
      have e1 : reE9 L o.data.toList n.data.toList = 8 := by unfold reE9; rw [hb, if_pos rfl, hh]; rfl
      rw [e1, if_neg (by decide)]
      rw [hh] at HLO
      clear hb h e1 HLN hh
      generalize tx7 (getE L o.data.toList) = g at *
      go_enter Tryd.func13, Tryd.ntmps13
      go_wp2_with fail
      with_reducible refine HN2.out.mono ?_
      rintro e w1 ⟨rfl, hb⟩
      have HB := Lib.hid hb
      have l0 := HLO.out w1 (HI.out.later hb)
      have c0 := (HI.out.later hb).cell0
      clear hb HN2 HLO
      go_wp2
      go_ret
      exact ⟨rfl, Goes9.still HI.out HB.out⟩
    | true =>
      have hmay := h.all _ (hasE_mem hh)
      rw [hh] at HLO
      have e0 : reE9 L o.data.toList n.data.toList = if hasE L n.data.toList && decide (n.data.toList ≠ o.data.toList) then 9 else 0 := by unfold reE9; rw [hb, if_pos rfl, hh, if_pos rfl]
      rw [e0]
      cases hx : (hasE L n.data.toList && decide (n.data.toList ≠ o.data.toList)) with
      | true =>
        rw [if_pos rfl, if_neg (by decide)]
        rw [Bool.and_eq_true, decide_eq_true_eq] at hx
        rw [hx.1] at HLN
        have n1 : ¬ n.toList = o.toList := by rw [Lib.toList_data, Lib.toList_data]; exact hx.2
        have n2 : (n.toList == o.toList) = false := by simpa using n1
        clear hb h hmay e0 hx hh
        generalize tx7 (getE L o.data.toList) = g at *
        generalize tx7 (getE L n.data.toList) = g2 at *
        go_enter Tryd.func13, Tryd.ntmps13
        go_wp2_with fail
        with_reducible refine HN2.out.mono ?_
        rintro e w1 ⟨rfl, hb⟩
        have HB := Lib.hid hb
        have l0 := HLO.out w1 (HI.out.later hb)
        have l1 := HLN.out w1 (HI.out.later hb)
        have c0 := (HI.out.later hb).cell0
        clear hb HN2 HLO HLN
        go_wp2
        go_ret
        exact ⟨rfl, Goes9.still HI.out HB.out⟩
      | false =>
        rw [if_neg (by decide), if_pos rfl]
        have hfit : (putE (delE L o.data.toList) n.data.toList (getE L o.data.toList)).length ≤ 100 := by
          have h1 := put_le9 (rise_del h.rise o.data.toList) n.data.toList (getE L o.data.toList)
          have h2 := del_length h.rise hh
          have := h.few
          omega
        have hfr := free9b h.mir (n := n.data.toList) hh
        have HD : Hid (∀ W, Idx9 W B p q L M → Calls Tryd.prog 11 #[.pointer (some ⟨B, 0, none⟩), .string o] W fun e w' => e = .returned (.bool (hasE L o.data.toList)) ∧ (∃ M', Idx9 w' B p q (delE L o.data.toList) M') ∧ Turn9 B p q W w') := fun W hW => drop9_calls B p q L M o W hW ho'
        have HP : Hid (∀ W M', Idx9 W B p q (delE L o.data.toList) M' → Calls Tryd.prog 25 #[.pointer (some ⟨B, 0, none⟩), .string n, .string (tx7 (getE L o.data.toList))] W fun e w' => e = .returned (.tuple #[]) ∧ Goes9 W B p q (putE (delE L o.data.toList) n.data.toList (getE L o.data.toList)) w') := fun W M' hW => by
          have := put9_calls B p q _ M' n (tx7 (getE L o.data.toList)) W hW (by rw [tx7_list]; exact ⟨hb, hmay.2⟩) (by rw [tx7_list]; exact hfr) (by rw [tx7_list]; exact hfit)
          rw [tx7_list] at this
          exact this
        rw [hh] at HD
        have hcase : hasE L n.data.toList = false ∨ (hasE L n.data.toList = true ∧ n = o) := by
          cases hz : hasE L n.data.toList
          · exact .inl rfl
          · rw [hz, Bool.true_and, decide_eq_false_iff_not] at hx
            refine .inr ⟨rfl, ?_⟩
            have : n.data.toList = o.data.toList := by
              by_cases e : n.data.toList = o.data.toList
              · exact e
              · exact absurd e hx
            rw [← tx7_back n, this, tx7_back]
        clear hb h hmay e0 hx hh hfr hfit
        generalize tx7 (getE L o.data.toList) = g at *
        rcases hcase with hz | ⟨hz, rfl⟩
        · rw [hz] at HLN
          clear hz
          generalize tx7 (getE L n.data.toList) = g2 at *
          go_enter Tryd.func13, Tryd.ntmps13
          go_wp2_with fail
          with_reducible refine HN2.out.mono ?_
          rintro e w1 ⟨rfl, hb⟩
          have HB := Lib.hid hb
          have l0 := HLO.out w1 (HI.out.later hb)
          have l1 := HLN.out w1 (HI.out.later hb)
          have c0 := (HI.out.later hb).cell0
          have HD1 := Lib.hid (HD.out w1 (HI.out.later hb))
          clear hb HN2 HLO HLN HD
          go_wp2_with fail
          with_reducible refine HD1.out.mono ?_
          rintro e w2 ⟨rfl, ⟨M2, hi⟩, ht⟩
          have HT := Lib.hid ht
          have HP1 := Lib.hid (HP.out w2 M2 hi)
          clear hi ht HP HD1
          go_wp2_with fail
          with_reducible refine HP1.out.mono ?_
          rintro e w3 ⟨rfl, hg⟩
          have HF := Lib.hid ((hg.after HT.out).ahead HB.out)
          clear hg HP1 HT
          go_wp2
          go_ret
          exact ⟨rfl, HF.out⟩
        · rw [hz] at HLN
          clear hz
          have n1 : (n.toList != n.toList) = false := by simp
          have n2 : (n.toList == n.toList) = true := by simp
          generalize tx7 (getE L n.data.toList) = g2 at *
          go_enter Tryd.func13, Tryd.ntmps13
          go_wp2_with fail
          with_reducible refine HN2.out.mono ?_
          rintro e w1 ⟨rfl, hb⟩
          have HB := Lib.hid hb
          have l0 := HLO.out w1 (HI.out.later hb)
          have c0 := (HI.out.later hb).cell0
          have HD1 := Lib.hid (HD.out w1 (HI.out.later hb))
          clear hb HN2 HLO HLN HD
          go_wp2_with fail
          with_reducible refine HD1.out.mono ?_
          rintro e w2 ⟨rfl, ⟨M2, hi⟩, ht⟩
          have HT := Lib.hid ht
          have HP1 := Lib.hid (HP.out w2 M2 hi)
          clear hi ht HP HD1
          go_wp2_with fail
          with_reducible refine HP1.out.mono ?_
          rintro e w3 ⟨rfl, hg⟩
          have HF := Lib.hid ((hg.after HT.out).ahead HB.out)
          clear hg HP1 HT
          go_wp2
          go_ret
          exact ⟨rfl, HF.out⟩
end Go.Proofs.YtiodbghokiajjaaDoor

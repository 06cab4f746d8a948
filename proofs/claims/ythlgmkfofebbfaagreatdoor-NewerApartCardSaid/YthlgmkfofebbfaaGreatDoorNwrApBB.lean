/-
  The texts that the laws of this seat share, part 2: what the code and the document's own answers tell, walked function by function.
  Conditions: each theorem's own.
-/
import Derived.StringKeys
import Derived.WideKeyEntry
import Derived.Maps.RangeWalk
import Derived.Shelf.SlMaps.Clone
import Derived.LoopN
import Derived.Maps.OwnSet
import Derived.Shelf.SlIter.Collect
import Derived.Test.YthlgmkfofebbfaaGreatDoorNwrApBA
namespace Go.Proofs.YthlgmkfofebbfaaGreatDoor
open Go.RowKit Go.Maps Go.Shelf

theorem Goes9.after {w w1 w' : World} {B : Nat} {p q : Option Nat} {L' : Row7} (ht : Turn9 B p q w w1) (h : Goes9 w1 B p q L' w') : Goes9 w B p q L' w' := by
 obtain ⟨p', q', M', hd, hp, hq, hu⟩ := h
 exact ⟨p', q', M', hd, fun b e => (hp b e).imp id (fun h => Nat.le_trans ht.size h), fun b e => (hq b e).imp id (fun h => Nat.le_trans ht.size h), Turns.next ht hu (fun i _ h => h)⟩

def bad9 (L : Row7) (n a : List UInt8) : Bool := hasO L a && decide (ownO L a ≠ n)
def seE9 (L : Row7) (n m : List UInt8) : Int := if name5 n then (if m = [] then 0 else if mail5 m then (if bad9 L n (fold5 m) then 9 else 0) else 11) else 10
def seL9 (L : Row7) (n m : List UInt8) : Row7 := if seE9 L n m = 0 then (if m = [] then delE L n else putE L n (fold5 m)) else L
def reE9 (L : Row7) (o n : List UInt8) : Int := if name5 n then (if hasE L o then (if hasE L n && decide (n ≠ o) then 9 else 0) else 8) else 10
def reL9 (L : Row7) (o n : List UInt8) : Row7 := if reE9 L o n = 0 then putE (delE L o) n (getE L o) else L

theorem free9 {L M : Row7} (h : Mirror9 L M) {n a : List UInt8} (hb : bad9 L n a = false) : hasO (delE L n) a = false := by
 cases hd : hasO (delE L n) a
 ·
  rfl
 ·
  obtain ⟨h1, h2⟩ := mem_del.1 (hasO_mem hd)
  have h3 : hasO L a = true := mem_hasO h1
  have h4 : ownO L a = ownO (delE L n) a := h.own h1
  unfold bad9 at hb
  rw [h3, Bool.true_and, decide_eq_false_iff_not] at hb
  have h5 : ownO L a = n := by
   by_cases e : ownO L a = n
   ·
    exact e
   ·
    exact absurd e hb
  exact absurd (h4.symm.trans h5) h2
theorem free9b {L M : Row7} (h : Mirror9 L M) {o n : List UInt8} (ho : hasE L o = true) : hasO (delE (delE L o) n) (getE L o) = false := by
 cases hd : hasO (delE (delE L o) n) (getE L o)
 ·
  rfl
 ·
  obtain ⟨h1, _⟩ := mem_del.1 (hasO_mem hd)
  obtain ⟨h1, h2⟩ := mem_del.1 h1
  exact absurd (h.one h1 (hasE_mem ho)) h2
theorem put_le9 {L : Row7} (hr : Rise7 L) (n a : List UInt8) : (putE L n a).length ≤ L.length + 1 := by
 rw [put_length hr]; split <;> omega
theorem fold9_list (l : List UInt8) : (ByteArray.mk (fold5 l).toArray).data.toList = fold5 l := by simp

set_option maxRecDepth 100000 in
set_option maxHeartbeats 2000000 in
theorem set9_calls (B : Nat) (p q : Option Nat) (L M : Row7) (n m : ByteArray) (w : World) (h : Idx9 w B p q L M) (hn : n.size ≤ 9223372036854775807) (hmz : m.size ≤ 9223372036854775807) (hl : L.length < 100) (h5 : Len5 w) :
  Calls Tryz.prog 131 #[.pointer (some ⟨B, 0, none⟩), .string n, .string m] w fun e w' => e = .returned (.int .i64 (seE9 L n.data.toList m.data.toList)) ∧ Goes9 w B p q (seL9 L n.data.toList m.data.toList) w' := by
 have hn' : n.size ≤ maxLen := Nat.le_trans hn (by decide)
 have HN := Lib.hid (Name_calls n w hn)
 have HI := Lib.hid h
 unfold seL9
 cases hb : name5 n.data.toList with
 | false =>
  rw [hb] at HN
  have HN2 : Hid (Calls Tryz.prog 52 #[.string n] w (Errs5 10 w)) := HN.out
  have e1 : seE9 L n.data.toList m.data.toList = 10 := by unfold seE9; rw [hb]; rfl
  rw [e1, if_neg (by decide)]
  clear HN hb h e1
  go_enter Tryz.func131, Tryz.ntmps131
  go_wp2_with fail
  with_reducible refine HN2.out.mono ?_
  rintro e w1 ⟨rfl, hb⟩
  have HB := Lib.hid hb
  clear hb HN2
  go_wp2
  go_ret
  exact ⟨rfl, Goes9.still HI.out HB.out⟩
 | true =>
  rw [hb] at HN
  have HN2 : Hid (Calls Tryz.prog 52 #[.string n] w (Errs5 0 w)) := HN.out
  have HNM := Lib.hid hb
  clear HN
  by_cases h0 : m.size = 0
  ·
   obtain rfl : m = ⟨#[]⟩ := by
    obtain ⟨d⟩ := m
    obtain rfl : d = #[] := Array.eq_empty_of_size_eq_zero h0
    rfl
   have e1 : seE9 L n.data.toList (ByteArray.mk #[]).data.toList = 0 := by unfold seE9; rw [hb]; rfl
   rw [e1, if_pos rfl, if_pos (by rfl)]
   have HD : Hid (∀ W, Idx9 W B p q L M → Calls Tryz.prog 77 #[.pointer (some ⟨B, 0, none⟩), .string n] W fun e w' => e = .returned (.bool (hasE L n.data.toList)) ∧ (∃ M', Idx9 w' B p q (delE L n.data.toList) M') ∧ Turn9 B p q W w') := fun W hW => drop9_calls B p q L M n W hW hn'
   clear hb h e1 hmz
   generalize hasE L n.data.toList = r at *
   go_enter Tryz.func131, Tryz.ntmps131
   go_wp2_with fail
   with_reducible refine HN2.out.mono ?_
   rintro e w1 ⟨rfl, hb⟩
   have HB := Lib.hid hb
   have HD1 := Lib.hid (HD.out w1 (HI.out.later hb))
   clear hb HN2 HD
   go_wp2_with fail
   with_reducible refine HD1.out.mono ?_
   rintro e w2 ⟨rfl, ⟨M2, hi⟩, ht⟩
   have HF : Hid (Goes9 w B p q (delE L n.data.toList) w2) := Goes9.ahead HB.out ⟨p, q, M2, hi, (fun _ e => .inl e), (fun _ e => .inl e), ht⟩
   clear hi ht HD1
   go_wp2
   go_ret
   exact ⟨rfl, HF.out⟩
  ·
   have hne : ¬ m.toList = [] := fun e => h0 (by rw [← size_list, ← ByteArray.toList_eq, e]; rfl)
   have hne1 : ¬ m.data.toList = [] := fun e => h0 (by rw [← size_list, e]; rfl)
   have hne2 : m.toList.isEmpty = false := by simpa using hne
   have HM : Hid (∀ W, Len5 W → Calls Tryz.prog 113 #[.string m] W (Mails5 (mail5 m.data.toList) (mailT m.data.toList) W)) := fun W hW => mail_calls m W hmz hW
   have H5 := Lib.hid h5
   cases hc : mail5 m.data.toList with
   | false =>
    have e1 : seE9 L n.data.toList m.data.toList = 11 := by unfold seE9; rw [hb, if_pos rfl, if_neg hne1, hc]; rfl
    rw [e1, if_neg (by decide)]
    unfold mailT at HM
    rw [hc] at HM
    have HM2 : Hid (∀ W, Len5 W → Calls Tryz.prog 113 #[.string m] W fun e w' => e = .returned (.tuple #[.string ⟨#[]⟩, .int .i64 11]) ∧ Below W.heap.size W w') := HM.out
    clear HM hb h e1 hmz hc h5 hne1
    go_enter Tryz.func131, Tryz.ntmps131
    go_wp2_with fail
    with_reducible refine HN2.out.mono ?_
    rintro e w1 ⟨rfl, hb⟩
    have HB := Lib.hid hb
    have HM1 := Lib.hid (HM2.out w1 (H5.out.later hb))
    clear hb HN2 HM2
    go_wp2_with fail
    with_reducible refine HM1.out.mono ?_
    rintro e w2 ⟨rfl, hb⟩
    have HF := Lib.hid (below_next HB.out hb)
    clear hb HM1
    go_wp2
    go_ret
    exact ⟨rfl, Goes9.still HI.out HF.out⟩
   | true =>
    unfold mailT at HM
    rw [hc] at HM
    have HM2 : Hid (∀ W, Len5 W → Calls Tryz.prog 113 #[.string m] W fun e w' => e = .returned (.tuple #[.string ⟨(fold5 m.data.toList).toArray⟩, .int .i64 0]) ∧ Below W.heap.size W w') := HM.out
    have hfz : (ByteArray.mk (fold5 m.data.toList).toArray).size ≤ maxLen := by
     show (fold5 m.data.toList).toArray.size ≤ _
     rw [List.size_toArray, fold5_length, size_list]; exact Nat.le_trans hmz (by decide)
    have HLK : Hid (∀ W, Idx9 W B p q L M → (Instr.lookup 99 (.map q) (.string ⟨(fold5 m.data.toList).toArray⟩) true).run Tryz.prog W = .ok (.tuple #[.string (tx7 (ownO L (fold5 m.data.toList))), .bool (hasO L (fold5 m.data.toList))]) W) := fun W hW => by
     have := look9 hW.mapq ⟨(fold5 m.data.toList).toArray⟩ hfz
     rw [fold9_list, hW.mir.get, hW.mir.has] at this
     exact this
    have e0 : seE9 L n.data.toList m.data.toList = if bad9 L n.data.toList (fold5 m.data.toList) then 9 else 0 := by unfold seE9; rw [hb, if_pos rfl, if_neg hne1, hc, if_pos rfl]
    have HP : Hid (bad9 L n.data.toList (fold5 m.data.toList) = false → ∀ W, Below w.heap.size w W → Calls Tryz.prog 132 #[.pointer (some ⟨B, 0, none⟩), .string n, .string ⟨(fold5 m.data.toList).toArray⟩] W fun e w' => e = .returned (.tuple #[]) ∧ Goes9 w B p q (putE L n.data.toList (fold5 m.data.toList)) w') := fun hbd W hW => by
     have hfr := free9 h.mir hbd
     have := put9_calls B p q L M n ⟨(fold5 m.data.toList).toArray⟩ W (h.later hW) (by rw [fold9_list]; exact May9.of hb hc) (by rw [fold9_list]; exact hfr) (by rw [fold9_list]; exact Nat.le_trans (put_le9 h.rise _ _) hl)
     rw [fold9_list] at this
     exact this.mono fun e w' ⟨he, hg⟩ => ⟨he, hg.ahead hW⟩
    rw [if_neg hne1, e0]
    clear HM e0 hfz h5 hc
    cases hho : hasO L (fold5 m.data.toList) with
    | false =>
     have hbd : bad9 L n.data.toList (fold5 m.data.toList) = false := by unfold bad9; rw [hho]; rfl
     have HP2 := Lib.hid (HP.out hbd)
     rw [hbd, if_neg (by decide), if_pos rfl]
     rw [hho] at HLK
     clear HP hbd hho hb h hmz hne1
     generalize tx7 (ownO L (fold5 m.data.toList)) = o at *
     generalize (⟨(fold5 m.data.toList).toArray⟩ : ByteArray) = f at *
     go_enter Tryz.func131, Tryz.ntmps131
     go_wp2_with fail
     with_reducible refine HN2.out.mono ?_
     rintro e w1 ⟨rfl, hb⟩
     have HB := Lib.hid hb
     have HM1 := Lib.hid (HM2.out w1 (H5.out.later hb))
     clear hb HN2 HM2
     go_wp2_with fail
     with_reducible refine HM1.out.mono ?_
     rintro e w2 ⟨rfl, hb⟩
     have hb2 := below_next HB.out hb
     have l1 := HLK.out w2 (HI.out.later hb2)
     have c1 := (HI.out.later hb2).cell1
     have HP3 := Lib.hid (HP2.out w2 hb2)
     clear hb HM1 HLK HP2 hb2
     go_wp2_with fail
     with_reducible refine HP3.out.mono ?_
     rintro e w3 ⟨rfl, hg⟩
     have HG := Lib.hid hg
     clear hg HP3 l1 c1
     go_wp2
     go_ret
     exact ⟨rfl, HG.out⟩
    | true =>
     rw [hho] at HLK
     by_cases ho : ownO L (fold5 m.data.toList) = n.data.toList
     ·
      have hbd : bad9 L n.data.toList (fold5 m.data.toList) = false := by unfold bad9; rw [ho]; simp
      have HP2 := Lib.hid (HP.out hbd)
      rw [hbd, if_neg (by decide), if_pos rfl]
      rw [ho, tx7_back] at HLK
      have n1 : (n.toList != n.toList) = false := by simp
      have n2 : (n.toList == n.toList) = true := by simp
      clear HP hbd hho hb h hmz ho hne1
      generalize (⟨(fold5 m.data.toList).toArray⟩ : ByteArray) = f at *
      go_enter Tryz.func131, Tryz.ntmps131
      go_wp2_with fail
      with_reducible refine HN2.out.mono ?_
      rintro e w1 ⟨rfl, hb⟩
      have HB := Lib.hid hb
      have HM1 := Lib.hid (HM2.out w1 (H5.out.later hb))
      clear hb HN2 HM2
      go_wp2_with fail
      with_reducible refine HM1.out.mono ?_
      rintro e w2 ⟨rfl, hb⟩
      have hb2 := below_next HB.out hb
      have l1 := HLK.out w2 (HI.out.later hb2)
      have c1 := (HI.out.later hb2).cell1
      have HP3 := Lib.hid (HP2.out w2 hb2)
      clear hb HM1 HLK HP2 hb2
      go_wp2_with fail
      with_reducible refine HP3.out.mono ?_
      rintro e w3 ⟨rfl, hg⟩
      have HG := Lib.hid hg
      clear hg HP3 l1 c1
      go_wp2
      go_ret
      exact ⟨rfl, HG.out⟩
     ·
      have hbd : bad9 L n.data.toList (fold5 m.data.toList) = true := by unfold bad9; rw [hho, Bool.true_and, decide_eq_true ho]
      rw [hbd, if_pos rfl, if_neg (by decide)]
      have n1 : ¬ (tx7 (ownO L (fold5 m.data.toList))).toList = n.toList := by
       rw [Lib.toList_data, Lib.toList_data, tx7_list]; exact ho
      have n2 : ((tx7 (ownO L (fold5 m.data.toList))).toList == n.toList) = false := by simpa using n1
      clear HP hbd hho hb h hmz ho hne1
      generalize tx7 (ownO L (fold5 m.data.toList)) = o at *
      generalize (⟨(fold5 m.data.toList).toArray⟩ : ByteArray) = f at *
      go_enter Tryz.func131, Tryz.ntmps131
      go_wp2_with fail
      with_reducible refine HN2.out.mono ?_
      rintro e w1 ⟨rfl, hb⟩
      have HB := Lib.hid hb
      have HM1 := Lib.hid (HM2.out w1 (H5.out.later hb))
      clear hb HN2 HM2
      go_wp2_with fail
      with_reducible refine HM1.out.mono ?_
      rintro e w2 ⟨rfl, hb⟩
      have hb2 := below_next HB.out hb
      have l1 := HLK.out w2 (HI.out.later hb2)
      have c1 := (HI.out.later hb2).cell1
      have HF := Lib.hid hb2
      clear hb HM1 HLK hb2
      go_wp2
      go_ret
      exact ⟨rfl, Goes9.still HI.out HF.out⟩

set_option maxRecDepth 100000 in
set_option maxHeartbeats 2000000 in
theorem rename9_calls (B : Nat) (p q : Option Nat) (L M : Row7) (o n : ByteArray) (w : World) (h : Idx9 w B p q L M) (ho : o.size ≤ 9223372036854775807) (hn : n.size ≤ 9223372036854775807) :
  Calls Tryz.prog 84 #[.pointer (some ⟨B, 0, none⟩), .string o, .string n] w fun e w' => e = .returned (.int .i64 (reE9 L o.data.toList n.data.toList)) ∧ Goes9 w B p q (reL9 L o.data.toList n.data.toList) w' := by
 have hn' : n.size ≤ maxLen := Nat.le_trans hn (by decide)
 have ho' : o.size ≤ maxLen := Nat.le_trans ho (by decide)
 have HN := Lib.hid (Name_calls n w hn)
 have HI := Lib.hid h
 have HLO : Hid (∀ W, Idx9 W B p q L M → (Instr.lookup 99 (.map p) (.string o) true).run Tryz.prog W = .ok (.tuple #[.string (tx7 (getE L o.data.toList)), .bool (hasE L o.data.toList)]) W) := fun W hW => look9 hW.mapp o ho'
 have HLN : Hid (∀ W, Idx9 W B p q L M → (Instr.lookup 99 (.map p) (.string n) true).run Tryz.prog W = .ok (.tuple #[.string (tx7 (getE L n.data.toList)), .bool (hasE L n.data.toList)]) W) := fun W hW => look9 hW.mapp n hn'
 unfold reL9
 cases hb : name5 n.data.toList with
 | false =>
  rw [hb] at HN
  have HN2 : Hid (Calls Tryz.prog 52 #[.string n] w (Errs5 10 w)) := HN.out
  have e1 : reE9 L o.data.toList n.data.toList = 10 := by unfold reE9; rw [hb]; rfl
  rw [e1, if_neg (by decide)]
  clear HN hb h e1 HLO HLN
  go_enter Tryz.func84, Tryz.ntmps84
  go_wp2_with fail
  with_reducible refine HN2.out.mono ?_
  rintro e w1 ⟨rfl, hb⟩
  have HB := Lib.hid hb
  clear hb HN2
  go_wp2
  go_ret
  exact ⟨rfl, Goes9.still HI.out HB.out⟩
 | true =>
  rw [hb] at HN
  have HN2 : Hid (Calls Tryz.prog 52 #[.string n] w (Errs5 0 w)) := HN.out
  clear HN
  have hnot : ∀ (x : Bool) (w : World), (Op.unary .not (.bool x)).run Tryz.prog w = .ok (.bool (!x)) w := fun _ _ => rfl
  cases hh : hasE L o.data.toList with
  | false =>
   have e1 : reE9 L o.data.toList n.data.toList = 8 := by unfold reE9; rw [hb, if_pos rfl, hh]; rfl
   rw [e1, if_neg (by decide)]
   rw [hh] at HLO
   clear hb h e1 HLN hh
   generalize tx7 (getE L o.data.toList) = g at *
   go_enter Tryz.func84, Tryz.ntmps84
   go_wp2_with fail
   with_reducible refine HN2.out.mono ?_
   rintro e w1 ⟨rfl, hb⟩
   have HB := Lib.hid hb
   have l0 := HLO.out w1 (HI.out.later hb)
   have c0 := (HI.out.later hb).cell0
   clear hb HN2 HLO
   go_wp2
   go_ret
   exact ⟨rfl, Goes9.still HI.out HB.out⟩
  | true =>
   have hmay := h.all _ (hasE_mem hh)
   rw [hh] at HLO
   have e0 : reE9 L o.data.toList n.data.toList = if hasE L n.data.toList && decide (n.data.toList ≠ o.data.toList) then 9 else 0 := by unfold reE9; rw [hb, if_pos rfl, hh, if_pos rfl]
   rw [e0]
   cases hx : (hasE L n.data.toList && decide (n.data.toList ≠ o.data.toList)) with
   | true =>
    rw [if_pos rfl, if_neg (by decide)]
    rw [Bool.and_eq_true, decide_eq_true_eq] at hx
    rw [hx.1] at HLN
    have n1 : ¬ n.toList = o.toList := by rw [Lib.toList_data, Lib.toList_data]; exact hx.2
    have n2 : (n.toList == o.toList) = false := by simpa using n1
    clear hb h hmay e0 hx hh
    generalize tx7 (getE L o.data.toList) = g at *
    generalize tx7 (getE L n.data.toList) = g2 at *
    go_enter Tryz.func84, Tryz.ntmps84
    go_wp2_with fail
    with_reducible refine HN2.out.mono ?_
    rintro e w1 ⟨rfl, hb⟩
    have HB := Lib.hid hb
    have l0 := HLO.out w1 (HI.out.later hb)
    have l1 := HLN.out w1 (HI.out.later hb)
    have c0 := (HI.out.later hb).cell0
    clear hb HN2 HLO HLN
    go_wp2
    go_ret
    exact ⟨rfl, Goes9.still HI.out HB.out⟩
   | false =>
    rw [if_neg (by decide), if_pos rfl]
    have hfit : (putE (delE L o.data.toList) n.data.toList (getE L o.data.toList)).length ≤ 100 := by
     have h1 := put_le9 (rise_del h.rise o.data.toList) n.data.toList (getE L o.data.toList)
     have h2 := del_length h.rise hh
     have := h.few
     omega
    have hfr := free9b h.mir (n := n.data.toList) hh
    have HD : Hid (∀ W, Idx9 W B p q L M → Calls Tryz.prog 77 #[.pointer (some ⟨B, 0, none⟩), .string o] W fun e w' => e = .returned (.bool (hasE L o.data.toList)) ∧ (∃ M', Idx9 w' B p q (delE L o.data.toList) M') ∧ Turn9 B p q W w') := fun W hW => drop9_calls B p q L M o W hW ho'
    have HP : Hid (∀ W M', Idx9 W B p q (delE L o.data.toList) M' → Calls Tryz.prog 132 #[.pointer (some ⟨B, 0, none⟩), .string n, .string (tx7 (getE L o.data.toList))] W fun e w' => e = .returned (.tuple #[]) ∧ Goes9 W B p q (putE (delE L o.data.toList) n.data.toList (getE L o.data.toList)) w') := fun W M' hW => by
     have := put9_calls B p q _ M' n (tx7 (getE L o.data.toList)) W hW (by rw [tx7_list]; exact ⟨hb, hmay.2⟩) (by rw [tx7_list]; exact hfr) (by rw [tx7_list]; exact hfit)
     rw [tx7_list] at this
     exact this
    rw [hh] at HD
    have hcase : hasE L n.data.toList = false ∨ (hasE L n.data.toList = true ∧ n = o) := by
     cases hz : hasE L n.data.toList
     ·
      exact .inl rfl
     ·
      rw [hz, Bool.true_and, decide_eq_false_iff_not] at hx
      refine .inr ⟨rfl, ?_⟩
      have : n.data.toList = o.data.toList := by
       by_cases e : n.data.toList = o.data.toList
       ·
        exact e
       ·
        exact absurd e hx
      rw [← tx7_back n, this, tx7_back]
    clear hb h hmay e0 hx hh hfr hfit
    generalize tx7 (getE L o.data.toList) = g at *
    rcases hcase with hz | ⟨hz, rfl⟩
    ·
     rw [hz] at HLN
     clear hz
     generalize tx7 (getE L n.data.toList) = g2 at *
     go_enter Tryz.func84, Tryz.ntmps84
     go_wp2_with fail
     with_reducible refine HN2.out.mono ?_
     rintro e w1 ⟨rfl, hb⟩
     have HB := Lib.hid hb
     have l0 := HLO.out w1 (HI.out.later hb)
     have l1 := HLN.out w1 (HI.out.later hb)
     have c0 := (HI.out.later hb).cell0
     have HD1 := Lib.hid (HD.out w1 (HI.out.later hb))
     clear hb HN2 HLO HLN HD
     go_wp2_with fail
     with_reducible refine HD1.out.mono ?_
     rintro e w2 ⟨rfl, ⟨M2, hi⟩, ht⟩
     have HT := Lib.hid ht
     have HP1 := Lib.hid (HP.out w2 M2 hi)
     clear hi ht HP HD1
     go_wp2_with fail
     with_reducible refine HP1.out.mono ?_
     rintro e w3 ⟨rfl, hg⟩
     have HF := Lib.hid ((hg.after HT.out).ahead HB.out)
     clear hg HP1 HT
     go_wp2
     go_ret
     exact ⟨rfl, HF.out⟩
    ·
     rw [hz] at HLN
     clear hz
     have n1 : (n.toList != n.toList) = false := by simp
     have n2 : (n.toList == n.toList) = true := by simp
     generalize tx7 (getE L n.data.toList) = g2 at *
     go_enter Tryz.func84, Tryz.ntmps84
     go_wp2_with fail
     with_reducible refine HN2.out.mono ?_
     rintro e w1 ⟨rfl, hb⟩
     have HB := Lib.hid hb
     have l0 := HLO.out w1 (HI.out.later hb)
     have c0 := (HI.out.later hb).cell0
     have HD1 := Lib.hid (HD.out w1 (HI.out.later hb))
     clear hb HN2 HLO HLN HD
     go_wp2_with fail
     with_reducible refine HD1.out.mono ?_
     rintro e w2 ⟨rfl, ⟨M2, hi⟩, ht⟩
     have HT := Lib.hid ht
     have HP1 := Lib.hid (HP.out w2 M2 hi)
     clear hi ht HP HD1
     go_wp2_with fail
     with_reducible refine HP1.out.mono ?_
     rintro e w3 ⟨rfl, hg⟩
     have HF := Lib.hid ((hg.after HT.out).ahead HB.out)
     clear hg HP1 HT
     go_wp2
     go_ret
     exact ⟨rfl, HF.out⟩
end Go.Proofs.YthlgmkfofebbfaaGreatDoor


namespace Go.Proofs.YthlgmkfofebbfaaGreatDoor
open Go.Maps

abbrev RowV (V : Type) := List (List UInt8 × V)
section
variable {V : Type}
def RiseV (L : RowV V) : Prop := L.Pairwise (fun p q => bytesBefore p.1 q.1 = true)
def entV (e : V → DataW Unit) (p : List UInt8 × V) : Lit × DataW Unit := (.string p.1, e p.2)
def datV (e : V → DataW Unit) (L : RowV V) : DataW Unit := .map (L.map (entV e))
def insV (x : List UInt8 × V) : RowV V → RowV V
 | [] => [x]
 | y :: r => if bytesBefore x.1 y.1 then x :: y :: r else y :: insV x r
def delV (L : RowV V) (k : List UInt8) : RowV V := L.filter (fun p => !(p.1 == k))
def putV (L : RowV V) (k : List UInt8) (v : V) : RowV V := insV (k, v) (delV L k)
def hasV (L : RowV V) (k : List UInt8) : Bool := L.any (fun p => p.1 == k)
def getV (L : RowV V) (k : List UInt8) : Option V := (L.find? (fun p => p.1 == k)).map (·.2)
def names10 (L : RowV V) : List (List UInt8) := L.map (·.1)
def updV (f : V → V) (L : RowV V) (k : List UInt8) : RowV V := L.map fun p => if p.1 = k then (p.1, f p.2) else p

theorem datV_ins (e : V → DataW Unit) (x : List UInt8 × V) : ∀ L : RowV V, (insV x L).map (entV e) = DataW.insert (entV e x) (L.map (entV e))
 | [] => rfl
 | y :: r => by
  simp only [insV, List.map_cons, DataW.insert]
  have h : (entV e x).1.before (entV e y).1 = bytesBefore x.1 y.1 := rfl
  rw [h]
  cases bytesBefore x.1 y.1
  ·
   simp [datV_ins e x r]
  ·
   simp
theorem datV_fil (e : V → DataW Unit) (k : List UInt8) : ∀ L : RowV V, (delV L k).map (entV e) = (L.map (entV e)).filter (fun p => !p.1.sameKey (.string k))
 | [] => rfl
 | y :: r => by
  have ih := datV_fil e k r
  unfold delV at ih ⊢
  have h : (entV e y).1.sameKey (.string k) = (y.1 == k) := rfl
  simp only [List.filter_cons, List.map_cons, h]
  cases (y.1 == k) <;> simp [ih]
theorem datV_put (e : V → DataW Unit) (L : RowV V) (k : List UInt8) (v : V) : (datV e L).put (.string k) (e v) = datV e (putV L k v) := by
 unfold datV putV
 rw [datV_ins, datV_fil]; rfl
theorem datV_del (e : V → DataW Unit) (L : RowV V) (k : List UInt8) : (datV e L).del (.string k) = datV e (delV L k) := by
 unfold datV
 rw [datV_fil]; rfl
theorem datV_has (e : V → DataW Unit) (L : RowV V) (k : List UInt8) : Maps.has (datV e L) (.string k) = hasV L k := by
 unfold datV hasV
 rw [Maps.has_eq, List.any_map]; rfl
theorem datV_at (e : V → DataW Unit) (L : RowV V) (k : List UInt8) (z : DataW Unit) : (datV e L).atKey (.string k) z = match getV L k with | some v => e v | none => z := by
 unfold datV getV
 unfold DataW.atKey
 simp only [List.find?_map]
 have h : ((fun p : Lit × DataW Unit => p.1.sameKey (.string k)) ∘ entV e) = (fun p : List UInt8 × V => p.1 == k) := rfl
 rw [h]
 cases L.find? (fun p => p.1 == k) <;> rfl
theorem datV_size (e : V → DataW Unit) (L : RowV V) : Maps.size (datV e L) = L.length := by simp [datV, Maps.size]
theorem datV_upd {e : V → DataW Unit} {f : V → V} (hf : ∀ v, e (f v) = e v) (L : RowV V) (k : List UInt8) : datV e (updV f L k) = datV e L := by
 unfold datV updV
 rw [List.map_map]
 congr 1
 refine List.map_congr_left fun p _ => ?_
 show entV e (if p.1 = k then (p.1, f p.2) else p) = entV e p
 split
 ·
  unfold entV; rw [hf]
 ·
  rfl

theorem mem_insV {x y : List UInt8 × V} : ∀ {L : RowV V}, y ∈ insV x L ↔ y = x ∨ y ∈ L
 | [] => by simp [insV]
 | z :: r => by
  unfold insV
  split
  ·
   simp
  ·
   simp only [List.mem_cons, mem_insV (L := r)]
   constructor
   ·
    rintro (h | h | h)
    ·
     exact .inr (.inl h)
    ·
     exact .inl h
    ·
     exact .inr (.inr h)
   ·
    rintro (h | h | h)
    ·
     exact .inr (.inl h)
    ·
     exact .inl h
    ·
     exact .inr (.inr h)
theorem mem_delV {L : RowV V} {k : List UInt8} {p : List UInt8 × V} : p ∈ delV L k ↔ p ∈ L ∧ p.1 ≠ k := by
 unfold delV; simp
theorem mem_putV {L : RowV V} {k : List UInt8} {v : V} {p : List UInt8 × V} : p ∈ putV L k v ↔ p = (k, v) ∨ (p ∈ L ∧ p.1 ≠ k) := by
 unfold putV
 rw [mem_insV, mem_delV]
theorem riseV_del {L : RowV V} (h : RiseV L) (k : List UInt8) : RiseV (delV L k) := h.filter _
theorem riseV_ins {x : List UInt8 × V} : ∀ {L : RowV V}, RiseV L → (∀ p ∈ L, p.1 ≠ x.1) → RiseV (insV x L)
 | [], _, _ => by simp [insV, RiseV]
 | y :: r, h, hn => by
  unfold insV
  obtain ⟨h1, h2⟩ := List.pairwise_cons.1 h
  split
  ·
   rename_i hb
   exact List.pairwise_cons.2 ⟨fun p hp => by
    rcases List.mem_cons.1 hp with rfl | hp
    ·
     exact hb
    ·
     exact WideShapes.bytes_trans _ _ _ hb (h1 p hp), h⟩
  ·
   rename_i hb
   have hyx : bytesBefore y.1 x.1 = true := by
    rcases WideAt.bytes_total y.1 x.1 (hn y (by simp)) with h' | h'
    ·
     exact h'
    ·
     exact absurd h' hb
   exact List.pairwise_cons.2 ⟨fun p hp => by
    rcases mem_insV.1 hp with rfl | hp
    ·
     exact hyx
    ·
     exact h1 p hp, riseV_ins h2 (fun p hp => hn p (by simp [hp]))⟩
theorem riseV_put {L : RowV V} (h : RiseV L) (k : List UInt8) (v : V) : RiseV (putV L k v) :=
 riseV_ins (riseV_del h k) (fun _ hp => (mem_delV.1 hp).2)
theorem updV_names (f : V → V) (L : RowV V) (k : List UInt8) : names10 (updV f L k) = names10 L := by
 unfold names10 updV
 rw [List.map_map]
 refine List.map_congr_left fun p _ => ?_
 show (if p.1 = k then (p.1, f p.2) else p).1 = p.1
 split <;> rfl
theorem riseV_names {W : Type} {L : RowV V} {L' : RowV W} (h : RiseV L) (e : names10 L' = names10 L) : RiseV L' := by
 have h1 : (names10 L).Pairwise (fun a b => bytesBefore a b = true) := List.pairwise_map.2 h
 rw [← e] at h1
 exact List.pairwise_map.1 h1
theorem riseV_upd {L : RowV V} (h : RiseV L) (f : V → V) (k : List UInt8) : RiseV (updV f L k) := riseV_names h (updV_names f L k)

theorem hasV_iff {L : RowV V} {k : List UInt8} : hasV L k = true ↔ ∃ p ∈ L, p.1 = k := by simp [hasV]
theorem hasV_names {L : RowV V} {k : List UInt8} : hasV L k = true ↔ k ∈ names10 L := by
 rw [hasV_iff]
 simp [names10]
theorem hasV_false {L : RowV V} {k : List UInt8} : hasV L k = false ↔ k ∉ names10 L := by
 rw [← hasV_names]; simp
theorem delV_of_not {L : RowV V} {k : List UInt8} (h : hasV L k = false) : delV L k = L := by
 unfold delV; rw [List.filter_eq_self]
 intro p hp
 cases e : (p.1 == k)
 ·
  rfl
 ·
  have : hasV L k = true := hasV_iff.2 ⟨p, hp, by simpa using e⟩
  rw [h] at this; cases this
theorem insV_length (x : List UInt8 × V) : ∀ L : RowV V, (insV x L).length = L.length + 1
 | [] => rfl
 | y :: r => by unfold insV; split <;> simp [insV_length x r]
theorem delV_le (L : RowV V) (k : List UInt8) : (delV L k).length ≤ L.length := List.length_filter_le _ _
theorem delV_lt {L : RowV V} {k : List UInt8} (h : hasV L k = true) : (delV L k).length < L.length := by
 unfold delV
 obtain ⟨p, hp, e⟩ := hasV_iff.1 h
 rcases Nat.lt_or_ge (L.filter fun p => !(p.1 == k)).length L.length with h1 | h1
 ·
  exact h1
 ·
  have h2 := List.filter_eq_self.1 (List.length_filter_eq_length_iff.1 (Nat.le_antisymm (List.length_filter_le _ _) h1) |> List.filter_eq_self.2)
  have := h2 p hp
  simp [e] at this
theorem putV_le (L : RowV V) (k : List UInt8) (v : V) : (putV L k v).length ≤ L.length + 1 := by
 unfold putV
 rw [insV_length]
 have := delV_le L k
 omega
theorem putV_has {L : RowV V} {k : List UInt8} (v : V) (h : hasV L k = true) : (putV L k v).length ≤ L.length := by
 unfold putV
 rw [insV_length]
 have := delV_lt h
 omega
theorem getV_some {L : RowV V} (hr : RiseV L) {k : List UInt8} {v : V} : getV L k = some v ↔ (k, v) ∈ L := by
 induction L with
 | nil => simp [getV]
 | cons y r ih =>
  obtain ⟨h1, h2⟩ := List.pairwise_cons.1 hr
  unfold getV at ih ⊢
  rw [List.find?_cons]
  by_cases e : y.1 = k
  ·
   have e' : (y.1 == k) = true := by simpa using e
   simp only [e', Option.map_some, Option.some.injEq, List.mem_cons]
   constructor
   ·
    intro h; left; rw [← h, ← e]
   ·
    rintro (h | h)
    ·
     rw [← h]
    ·
     exact absurd (h1 _ h) (by rw [e, before_irrefl]; exact Bool.noConfusion)
  ·
   have e' : (y.1 == k) = false := by simpa using e
   simp only [e', List.mem_cons]
   rw [ih h2]
   constructor
   ·
    exact .inr
   ·
    rintro (h | h)
    ·
     exact absurd (by rw [← h]) e
    ·
     exact h
theorem getV_none {L : RowV V} {k : List UInt8} : getV L k = none ↔ hasV L k = false := by
 unfold getV hasV
 rw [Option.map_eq_none_iff, List.find?_eq_none, List.any_eq_false]
theorem getV_has {L : RowV V} {k : List UInt8} (h : hasV L k = true) : ∃ v, getV L k = some v := by
 cases hg : getV L k
 ·
  rw [getV_none.1 hg] at h; cases h
 ·
  exact ⟨_, rfl⟩
theorem riseV_one {L : RowV V} (hr : RiseV L) {p q : List UInt8 × V} (hp : p ∈ L) (hq : q ∈ L) (e : p.1 = q.1) : p = q := by
 have h1 := (getV_some hr (k := p.1) (v := p.2)).2 hp
 have h2 := (getV_some hr (k := p.1) (v := q.2)).2 (by rw [e]; exact hq)
 rw [h1] at h2
 injection h2 with h2
 exact Prod.ext e h2
theorem names_put {L : RowV V} {k : List UInt8} {v : V} {x : List UInt8} : x ∈ names10 (putV L k v) ↔ x = k ∨ x ∈ names10 L := by
 unfold names10
 simp only [List.mem_map, mem_putV]
 constructor
 ·
  rintro ⟨p, rfl | ⟨hp, _⟩, rfl⟩
  ·
   exact .inl rfl
  ·
   exact .inr ⟨p, hp, rfl⟩
 ·
  rintro (rfl | ⟨p, hp, rfl⟩)
  ·
   exact ⟨_, .inl rfl, rfl⟩
  ·
   by_cases e : p.1 = k
   ·
    exact ⟨(k, v), .inl rfl, e.symm⟩
   ·
    exact ⟨p, .inr ⟨hp, e⟩, rfl⟩
theorem names_del {L : RowV V} {k x : List UInt8} : x ∈ names10 (delV L k) ↔ x ∈ names10 L ∧ x ≠ k := by
 unfold names10
 simp only [List.mem_map, mem_delV]
 constructor
 ·
  rintro ⟨p, ⟨hp, hn⟩, rfl⟩; exact ⟨⟨p, hp, rfl⟩, hn⟩
 ·
  rintro ⟨⟨p, hp, rfl⟩, hn⟩; exact ⟨p, ⟨hp, hn⟩, rfl⟩
theorem hasV_put {L : RowV V} {k x : List UInt8} {v : V} : hasV (putV L k v) x = true ↔ x = k ∨ hasV L x = true := by
 rw [hasV_names, names_put, hasV_names]
theorem hasV_del {L : RowV V} {k x : List UInt8} : hasV (delV L k) x = true ↔ hasV L x = true ∧ x ≠ k := by
 rw [hasV_names, names_del, hasV_names]
theorem map_insV {W : Type} (f : V → W) (x : List UInt8 × V) : ∀ L : RowV V, (insV x L).map (fun p => (p.1, f p.2)) = insV (x.1, f x.2) (L.map fun p => (p.1, f p.2))
 | [] => rfl
 | y :: r => by
  unfold insV
  simp only [List.map_cons]
  split <;> simp [map_insV f x r]
theorem map_delV {W : Type} (f : V → W) (L : RowV V) (k : List UInt8) : (delV L k).map (fun p => (p.1, f p.2)) = delV (L.map fun p => (p.1, f p.2)) k := by
 unfold delV
 rw [List.filter_map]
 rfl
theorem map_putV {W : Type} (f : V → W) (L : RowV V) (k : List UInt8) (v : V) : (putV L k v).map (fun p => (p.1, f p.2)) = putV (L.map fun p => (p.1, f p.2)) k (f v) := by
 unfold putV
 rw [map_insV, map_delV]
theorem map_names {W : Type} (f : V → W) (L : RowV V) : names10 (L.map fun p => (p.1, f p.2)) = names10 L := by
 unfold names10
 rw [List.map_map]; rfl
theorem map_hasV {W : Type} (f : V → W) (L : RowV V) (k : List UInt8) : hasV (L.map fun p => (p.1, f p.2)) k = hasV L k := by
 unfold hasV
 rw [List.any_map]; rfl
end

/-! ### rows of texts -/
def RiseT (l : List (List UInt8)) : Prop := l.Pairwise (fun a b => bytesBefore a b = true)
theorem RiseV.names {V : Type} {L : RowV V} (h : RiseV L) : RiseT (names10 L) := List.pairwise_map.2 h
theorem riseT_ext : ∀ {a b : List (List UInt8)}, RiseT a → RiseT b → (∀ x, x ∈ a ↔ x ∈ b) → a = b
 | [], [], _, _, _ => rfl
 | [], y :: s, _, _, h => absurd ((h y).2 (by simp)) (by simp)
 | x :: r, [], _, _, h => absurd ((h x).1 (by simp)) (by simp)
 | x :: r, y :: s, ha, hb, h => by
  obtain ⟨a1, a2⟩ := List.pairwise_cons.1 ha
  obtain ⟨b1, b2⟩ := List.pairwise_cons.1 hb
  have e : x = y := by
   rcases List.mem_cons.1 ((h x).1 (by simp)) with e | hx
   ·
    exact e
   ·
    rcases List.mem_cons.1 ((h y).2 (by simp)) with e | hy
    ·
     exact e.symm
    ·
     exact absurd (b1 _ hx) (by rw [before_anti (a1 _ hy)]; exact Bool.noConfusion)
  subst e
  rw [riseT_ext a2 b2 fun z => ?_]
  constructor
  ·
   intro hz
   rcases List.mem_cons.1 ((h z).1 (by simp [hz])) with e | h'
   ·
    subst e; exact absurd (a1 _ hz) (by rw [before_irrefl]; exact Bool.noConfusion)
   ·
    exact h'
  ·
   intro hz
   rcases List.mem_cons.1 ((h z).2 (by simp [hz])) with e | h'
   ·
    subst e; exact absurd (b1 _ hz) (by rw [before_irrefl]; exact Bool.noConfusion)
   ·
    exact h'
theorem sort_rise {ls ss : List (List UInt8)} (hr : RiseT ls) (hp : ss.Perm ls) (le : List UInt8 → List UInt8 → Bool) (hle : ∀ x y, le x y = !bytesBefore y x) : ss.mergeSort le = ls := by
 have := sort_names (L := ls.map fun x => (x, [])) (List.pairwise_map.2 (by exact hr)) (ss := ss) (by rw [List.map_map]; exact (List.map_id ls).symm ▸ hp) le hle
 rw [this, List.map_map]
 exact List.map_id ls

def insT (s : List UInt8) : List (List UInt8) → List (List UInt8)
 | [] => [s]
 | t :: r => if bytesBefore s t then s :: t :: r else t :: insT s r
theorem insT_mem {s x : List UInt8} : ∀ {l : List (List UInt8)}, x ∈ insT s l ↔ x = s ∨ x ∈ l
 | [] => by simp [insT]
 | t :: r => by
  unfold insT
  split
  ·
   simp
  ·
   simp only [List.mem_cons, insT_mem (l := r)]
   constructor
   ·
    rintro (h | h | h)
    ·
     exact .inr (.inl h)
    ·
     exact .inl h
    ·
     exact .inr (.inr h)
   ·
    rintro (h | h | h)
    ·
     exact .inr (.inl h)
    ·
     exact .inl h
    ·
     exact .inr (.inr h)
theorem insT_length (s : List UInt8) : ∀ l : List (List UInt8), (insT s l).length = l.length + 1
 | [] => rfl
 | t :: r => by unfold insT; split <;> simp [insT_length s r]
theorem insT_rise {s : List UInt8} : ∀ {l : List (List UInt8)}, RiseT l → s ∉ l → RiseT (insT s l)
 | [], _, _ => by simp [insT, RiseT]
 | t :: r, h, hn => by
  unfold insT
  obtain ⟨h1, h2⟩ := List.pairwise_cons.1 h
  split
  ·
   rename_i hb
   exact List.pairwise_cons.2 ⟨fun p hp => by
    rcases List.mem_cons.1 hp with rfl | hp
    ·
     exact hb
    ·
     exact WideShapes.bytes_trans _ _ _ hb (h1 p hp), h⟩
  ·
   rename_i hb
   have hts : bytesBefore t s = true := by
    rcases WideAt.bytes_total t s (fun e => hn (by simp [e])) with h' | h'
    ·
     exact h'
    ·
     exact absurd h' hb
   exact List.pairwise_cons.2 ⟨fun p hp => by
    rcases insT_mem.1 hp with rfl | hp
    ·
     exact hts
    ·
     exact h1 p hp, insT_rise h2 (fun hp => hn (by simp [hp]))⟩
def sortStep (out : List (List UInt8)) (s : List UInt8) : List (List UInt8) := if s ∈ out then out else insT s out
def sortT (l : List (List UInt8)) : List (List UInt8) := l.foldl sortStep []
theorem sortStep_rise {o : List (List UInt8)} (h : RiseT o) (s : List UInt8) : RiseT (sortStep o s) := by
 unfold sortStep
 split
 ·
  exact h
 ·
  rename_i hn; exact insT_rise h hn
theorem sortStep_mem {o : List (List UInt8)} {s x : List UInt8} : x ∈ sortStep o s ↔ x = s ∨ x ∈ o := by
 unfold sortStep
 split
 ·
  rename_i h
  constructor
  ·
   exact .inr
  ·
   rintro (rfl | h')
   ·
    exact h
   ·
    exact h'
 ·
  exact insT_mem
theorem foldl_rise : ∀ (l o : List (List UInt8)), RiseT o → RiseT (l.foldl sortStep o)
 | [], _, h => h
 | s :: r, _, h => foldl_rise r _ (sortStep_rise h s)
theorem foldl_mem {x : List UInt8} : ∀ (l o : List (List UInt8)), x ∈ l.foldl sortStep o ↔ x ∈ l ∨ x ∈ o
 | [], _ => by simp
 | s :: r, o => by
  show x ∈ r.foldl sortStep (sortStep o s) ↔ _
  rw [foldl_mem r, sortStep_mem]
  simp only [List.mem_cons]
  constructor
  ·
   rintro (h | h | h)
   ·
    exact .inl (.inr h)
   ·
    exact .inl (.inl h)
   ·
    exact .inr h
  ·
   rintro ((h | h) | h)
   ·
    exact .inr (.inl h)
   ·
    exact .inl h
   ·
    exact .inr (.inr h)
theorem sortT_rise (l : List (List UInt8)) : RiseT (sortT l) := foldl_rise l [] List.Pairwise.nil
theorem sortT_mem {l : List (List UInt8)} {x : List UInt8} : x ∈ sortT l ↔ x ∈ l := by
 unfold sortT
 rw [foldl_mem]; simp
theorem sortT_eq {l r : List (List UInt8)} (hr : RiseT r) (h : ∀ x, x ∈ r ↔ x ∈ l) : sortT l = r :=
 riseT_ext (sortT_rise l) hr fun x => by rw [sortT_mem, h]
theorem sortT_take {l : List (List UInt8)} {k : Nat} (hk : k < l.length) : sortT (l.take (k + 1)) = sortStep (sortT (l.take k)) l[k] := by
 unfold sortT
 rw [List.take_succ_eq_append_getElem hk, List.foldl_append]
 rfl
theorem sortStep_le (o : List (List UInt8)) (s : List UInt8) : (sortStep o s).length ≤ o.length + 1 := by
 unfold sortStep
 split
 ·
  omega
 ·
  rw [insT_length]; omega
theorem foldl_le : ∀ (l o : List (List UInt8)), (l.foldl sortStep o).length ≤ l.length + o.length
 | [], _ => by simp
 | s :: r, o => by
  have h1 := foldl_le r (sortStep o s)
  have h2 := sortStep_le o s
  simp only [List.foldl_cons, List.length_cons]
  omega
theorem sortT_le (l : List (List UInt8)) : (sortT l).length ≤ l.length := by
 have := foldl_le l []
 simpa [sortT] using this

/-! ### groups, as the code has them -/
abbrev Set10 := RowV Unit
abbrev Grs10 := RowV Set10
def mem10 (S : Grs10) (g : List UInt8) : Set10 := (getV S g).getD []
def in10 (S : Grs10) (g n : List UInt8) : Bool := hasV (mem10 S g) n
def findE10 (S : Grs10) (g : List UInt8) (l : List (List UInt8)) : Int := if name5 g && l.all name5 then (if hasV S g then 0 else 8) else 10
def maE10 (S : Grs10) (g : List UInt8) : Int := if name5 g then (if hasV S g then 9 else if 6 ≤ S.length then 7 else 0) else 10
def maS10 (S : Grs10) (g : List UInt8) : Grs10 := if maE10 S g = 0 then putV S g [] else S
def drE10 (S : Grs10) (g : List UInt8) : Int := findE10 S g []
def drS10 (S : Grs10) (g : List UInt8) : Grs10 := if drE10 S g = 0 then delV S g else S
def joE10 (S : Grs10) (g n : List UInt8) : Int := if findE10 S g [n] = 0 then (if in10 S g n then 9 else 0) else findE10 S g [n]
def joS10 (S : Grs10) (g n : List UInt8) : Grs10 := if joE10 S g n = 0 then updV (fun l => putV l n ()) S g else S
def leE10 (S : Grs10) (g n : List UInt8) : Int := if findE10 S g [n] = 0 then (if in10 S g n then 0 else 12) else findE10 S g [n]
def leS10 (S : Grs10) (g n : List UInt8) : Grs10 := if leE10 S g n = 0 then updV (fun l => delV l n) S g else S
def meL10 (S : Grs10) (g : List UInt8) : List (List UInt8) := if drE10 S g = 0 then names10 (mem10 S g) else []
def ofs10 (S : Grs10) (n : List UInt8) : Grs10 := S.filter fun p => hasV p.2 n
def of10 (S : Grs10) (n : List UInt8) : List (List UInt8) := names10 (ofs10 S n)
def reE10 (S : Grs10) (o n : List UInt8) : Int := if name5 n then (if n ≠ o ∧ of10 S n ≠ [] then 9 else 0) else 10
def ren10 (o n : List UInt8) (l : Set10) : Set10 := if hasV l o then putV (delV l o) n () else l
def reS10 (S : Grs10) (o n : List UInt8) : Grs10 := if reE10 S o n = 0 then S.map (fun p => (p.1, ren10 o n p.2)) else S
def rmS10 (S : Grs10) (n : List UInt8) : Grs10 := S.map fun p => (p.1, delV p.2 n)

structure Good10 (S : Grs10) (k : Nat) : Prop where
 rise : RiseV S
 sets : ∀ p ∈ S, RiseV p.2
 few : S.length ≤ 6
 little : ∀ p ∈ S, p.2.length ≤ k
 named : ∀ p ∈ S, name5 p.1 = true
 whos : ∀ p ∈ S, ∀ m ∈ p.2, name5 m.1 = true
theorem Good10.nil : Good10 [] 0 := ⟨List.Pairwise.nil, (fun _ h => nomatch h), by simp, (fun _ h => nomatch h), (fun _ h => nomatch h), (fun _ h => nomatch h)⟩
theorem Good10.mono {S : Grs10} {k k' : Nat} (h : Good10 S k) (hk : k ≤ k') : Good10 S k' := ⟨h.rise, h.sets, h.few, fun p hp => Nat.le_trans (h.little p hp) hk, h.named, h.whos⟩

theorem mem10_at {S : Grs10} (hr : RiseV S) {p : List UInt8 × Set10} (h : p ∈ S) : mem10 S p.1 = p.2 := by
 unfold mem10
 rw [(getV_some hr).2 (show (p.1, p.2) ∈ S from h)]; rfl
theorem mem10_none {S : Grs10} {g : List UInt8} (h : hasV S g = false) : mem10 S g = [] := by
 unfold mem10
 rw [getV_none.2 h]; rfl
theorem in10_iff {S : Grs10} (hr : RiseV S) {g n : List UInt8} : in10 S g n = true ↔ ∃ p ∈ S, p.1 = g ∧ hasV p.2 n = true := by
 unfold in10
 constructor
 ·
  intro h
  cases hg : hasV S g with
  | false => rw [mem10_none hg] at h; cases h
  | true =>
   obtain ⟨p, hp, rfl⟩ := hasV_iff.1 hg
   rw [mem10_at hr hp] at h
   exact ⟨p, hp, rfl, h⟩
 ·
  rintro ⟨p, hp, rfl, h⟩
  rw [mem10_at hr hp]; exact h
theorem of10_mem {S : Grs10} (hr : RiseV S) {g n : List UInt8} : g ∈ of10 S n ↔ in10 S g n = true := by
 rw [in10_iff hr]
 unfold of10 ofs10 names10
 simp only [List.mem_map, List.mem_filter]
 constructor
 ·
  rintro ⟨p, ⟨hp, h⟩, rfl⟩; exact ⟨p, hp, rfl, h⟩
 ·
  rintro ⟨p, hp, rfl, h⟩; exact ⟨p, ⟨hp, h⟩, rfl⟩
theorem of10_rise {S : Grs10} (hr : RiseV S) (n : List UInt8) : RiseT (of10 S n) := RiseV.names (hr.filter _)
theorem of10_sub {S : Grs10} {g n : List UInt8} (h : g ∈ of10 S n) : g ∈ names10 S := by
 unfold of10 ofs10 names10 at h
 obtain ⟨p, hp, rfl⟩ := List.mem_map.1 h
 exact List.mem_map.2 ⟨p, (List.mem_filter.1 hp).1, rfl⟩
theorem of10_le (S : Grs10) (n : List UInt8) : (of10 S n).length ≤ S.length := by
 unfold of10 ofs10 names10
 rw [List.length_map]
 exact List.length_filter_le _ _
theorem names10_length {V : Type} (L : RowV V) : (names10 L).length = L.length := List.length_map _

theorem good_make {S : Grs10} {k : Nat} (h : Good10 S k) (g : List UInt8) : Good10 (maS10 S g) k := by
 unfold maS10
 split
 case isFalse => exact h
 case isTrue he =>
  unfold maE10 at he
  split at he
  case isFalse => cases he
  case isTrue hn =>
  split at he
  ·
   cases he
  ·
   rename_i hh
   have hf : hasV S g = false := by simpa using hh
   split at he
   ·
    cases he
   ·
    rename_i h6
    refine ⟨riseV_put h.rise g [], fun p hp => ?_, ?_, fun p hp => ?_, fun p hp => ?_, fun p hp => ?_⟩
    ·
     rcases mem_putV.1 hp with rfl | ⟨hp, _⟩
     ·
      exact List.Pairwise.nil
     ·
      exact h.sets p hp
    ·
     have := putV_le S g []; omega
    ·
     rcases mem_putV.1 hp with rfl | ⟨hp, _⟩
     ·
      simp
     ·
      exact h.little p hp
    ·
     rcases mem_putV.1 hp with rfl | ⟨hp, _⟩
     ·
      exact hn
     ·
      exact h.named p hp
    ·
     rcases mem_putV.1 hp with rfl | ⟨hp, _⟩
     ·
      intro m hm; cases hm
     ·
      exact h.whos p hp
theorem good_drop {S : Grs10} {k : Nat} (h : Good10 S k) (g : List UInt8) : Good10 (drS10 S g) k := by
 unfold drS10
 split
 ·
  exact ⟨riseV_del h.rise g, fun p hp => h.sets p (mem_delV.1 hp).1, Nat.le_trans (delV_le S g) h.few, fun p hp => h.little p (mem_delV.1 hp).1, fun p hp => h.named p (mem_delV.1 hp).1, fun p hp => h.whos p (mem_delV.1 hp).1⟩
 ·
  exact h
theorem good_upd {S : Grs10} {k k' : Nat} (h : Good10 S k) (f : Set10 → Set10) (g : List UInt8) (hk : k ≤ k') (hf : ∀ l : Set10, RiseV l → l.length ≤ k → RiseV (f l) ∧ (f l).length ≤ k') (hw : ∀ l : Set10, (∀ m ∈ l, name5 m.1 = true) → ∀ m ∈ f l, name5 m.1 = true) : Good10 (updV f S g) k' := by
 refine ⟨riseV_upd h.rise f g, fun p hp => ?_, by rw [updV, List.length_map]; exact h.few, fun p hp => ?_, fun p hp => ?_, fun p hp => ?_⟩
 all_goals
  obtain ⟨q, hq, rfl⟩ := List.mem_map.1 hp
  have := hf q.2 (h.sets q hq) (h.little q hq)
  by_cases e : q.1 = g
  ·
   simp only [e, if_true]
   first | exact this.1 | exact this.2 | (rw [← e]; exact h.named q hq) | exact hw q.2 (h.whos q hq)
  ·
   simp only [e, if_false]
   first | exact h.sets q hq | exact Nat.le_trans (h.little q hq) hk | exact h.named q hq | exact h.whos q hq
theorem good_join {S : Grs10} {k : Nat} (h : Good10 S k) (g n : List UInt8) : Good10 (joS10 S g n) (k + 1) := by
 unfold joS10
 split
 ·
  rename_i he
  have hn : name5 n = true := by
   unfold joE10 at he
   split at he
   ·
    rename_i hz
    unfold findE10 at hz
    split at hz
    ·
     rename_i hb
     simp only [List.all_cons, List.all_nil, Bool.and_true, Bool.and_eq_true] at hb
     exact hb.2
    ·
     cases hz
   ·
    rename_i hz; exact absurd he hz
  exact good_upd h _ g (by omega) (fun l hl hk => ⟨riseV_put hl n (), by have := putV_le l n (); omega⟩) fun l hl m hm => by
   rcases mem_putV.1 hm with rfl | ⟨hm, _⟩
   ·
    exact hn
   ·
    exact hl m hm
 ·
  exact h.mono (by omega)
theorem good_leave {S : Grs10} {k : Nat} (h : Good10 S k) (g n : List UInt8) : Good10 (leS10 S g n) k := by
 unfold leS10
 split
 ·
  exact good_upd h _ g (by omega) (fun l hl hk => ⟨riseV_del hl n, Nat.le_trans (delV_le l n) hk⟩) fun l hl m hm => hl m (mem_delV.1 hm).1
 ·
  exact h
theorem ren10_rise {o n : List UInt8} {l : Set10} (h : RiseV l) : RiseV (ren10 o n l) := by
 unfold ren10
 split
 ·
  exact riseV_put (riseV_del h o) n ()
 ·
  exact h
theorem ren10_le (o n : List UInt8) (l : Set10) : (ren10 o n l).length ≤ l.length := by
 unfold ren10
 split
 ·
  rename_i h
  have h1 := delV_lt h
  have h2 := putV_le (delV l o) n ()
  omega
 ·
  exact Nat.le_refl _
theorem good_map {S : Grs10} {k : Nat} (h : Good10 S k) (f : Set10 → Set10) (hf : ∀ l : Set10, RiseV l → RiseV (f l) ∧ (f l).length ≤ l.length) (hw : ∀ l : Set10, (∀ m ∈ l, name5 m.1 = true) → ∀ m ∈ f l, name5 m.1 = true) : Good10 (S.map fun p => (p.1, f p.2)) k := by
 refine ⟨riseV_names h.rise (map_names f S), fun p hp => ?_, by rw [List.length_map]; exact h.few, fun p hp => ?_, fun p hp => ?_, fun p hp => ?_⟩
 all_goals
  obtain ⟨q, hq, rfl⟩ := List.mem_map.1 hp
  have := hf q.2 (h.sets q hq)
  first | exact this.1 | exact Nat.le_trans this.2 (h.little q hq) | exact h.named q hq | exact hw q.2 (h.whos q hq)
theorem good_rename {S : Grs10} {k : Nat} (h : Good10 S k) (o n : List UInt8) : Good10 (reS10 S o n) k := by
 unfold reS10
 split
 ·
  rename_i he
  have hn : name5 n = true := by
   unfold reE10 at he
   split at he
   ·
    assumption
   ·
    cases he
  exact good_map h _ (fun l hl => ⟨ren10_rise hl, ren10_le o n l⟩) fun l hl m hm => by
   unfold ren10 at hm
   split at hm
   ·
    rcases mem_putV.1 hm with rfl | ⟨hm, _⟩
    ·
     exact hn
    ·
     exact hl m (mem_delV.1 hm).1
   ·
    exact hl m hm
 ·
  exact h
theorem good_remove {S : Grs10} {k : Nat} (h : Good10 S k) (n : List UInt8) : Good10 (rmS10 S n) k := good_map h _ (fun l hl => ⟨riseV_del hl n, delV_le l n⟩) fun _ hl m hm => hl m (mem_delV.1 hm).1
end Go.Proofs.YthlgmkfofebbfaaGreatDoor


namespace Go.Proofs.YthlgmkfofebbfaaGreatDoor
open Go.Maps

abbrev Who10 := List UInt8 × List UInt8
def hasT (l : List (List UInt8)) (s : List UInt8) : Bool := l.any fun t => t == s
theorem hasT_iff {l : List (List UInt8)} {s : List UInt8} : hasT l s = true ↔ s ∈ l := by simp [hasT]
theorem hasT_false {l : List (List UInt8)} {s : List UInt8} : hasT l s = false ↔ s ∉ l := by rw [← hasT_iff]; simp
def dropN (N : List (List UInt8)) (g : List UInt8) : List (List UInt8) := N.filter fun s => !(s == g)
def dropM (M : List Who10) (g : List UInt8) : List Who10 := M.filter fun m => !(m.1 == g)
def outM (M : List Who10) (g n : List UInt8) : List Who10 := M.filter fun m => !(m.1 == g) || !(m.2 == n)
def whoM (M : List Who10) (g : List UInt8) : List (List UInt8) := (M.filter fun m => m.1 == g).map (·.2)
def ofM (M : List Who10) (n : List UInt8) : List (List UInt8) := (M.filter fun m => m.2 == n).map (·.1)
def renM (M : List Who10) (o n : List UInt8) : List Who10 := M.map fun m => if m.2 == o then (m.1, n) else m
def rmM (M : List Who10) (n : List UInt8) : List Who10 := (sortT (ofM M n)).foldl (fun m g => outM m g n) M

theorem outM_mem {M : List Who10} {g n : List UInt8} {m : Who10} : m ∈ outM M g n ↔ m ∈ M ∧ (m.1 = g → m.2 ≠ n) := by
 simp only [outM, List.mem_filter, Bool.or_eq_true, Bool.not_eq_true', beq_eq_false_iff_ne]
 constructor
 ·
  rintro ⟨h, h' | h'⟩
  ·
   exact ⟨h, fun e => absurd e h'⟩
  ·
   exact ⟨h, fun _ => h'⟩
 ·
  rintro ⟨h, h'⟩
  refine ⟨h, ?_⟩
  by_cases e : m.1 = g
  ·
   exact .inr (h' e)
  ·
   exact .inl e
theorem outM_fold {n : List UInt8} {m : Who10} : ∀ (gs : List (List UInt8)) (M : List Who10), m ∈ gs.foldl (fun m g => outM m g n) M ↔ m ∈ M ∧ (m.1 ∈ gs → m.2 ≠ n)
 | [], M => by simp
 | g :: r, M => by
  show m ∈ r.foldl (fun m g => outM m g n) (outM M g n) ↔ _
  rw [outM_fold r, outM_mem]
  simp only [List.mem_cons]
  constructor
  ·
   rintro ⟨⟨h, h1⟩, h2⟩
   exact ⟨h, fun e => e.elim h1 h2⟩
  ·
   rintro ⟨h, h1⟩
   exact ⟨⟨h, fun e => h1 (.inl e)⟩, fun e => h1 (.inr e)⟩
theorem ofM_mem {M : List Who10} {g n : List UInt8} : g ∈ ofM M n ↔ (g, n) ∈ M := by
 simp only [ofM, List.mem_map, List.mem_filter, beq_iff_eq]
 constructor
 ·
  rintro ⟨m, ⟨hm, rfl⟩, rfl⟩; exact hm
 ·
  intro h; exact ⟨_, ⟨h, rfl⟩, rfl⟩
theorem whoM_mem {M : List Who10} {g n : List UInt8} : n ∈ whoM M g ↔ (g, n) ∈ M := by
 simp only [whoM, List.mem_map, List.mem_filter, beq_iff_eq]
 constructor
 ·
  rintro ⟨m, ⟨hm, rfl⟩, rfl⟩; exact hm
 ·
  intro h; exact ⟨_, ⟨h, rfl⟩, rfl⟩
theorem rmM_mem {M : List Who10} {n : List UInt8} {m : Who10} : m ∈ rmM M n ↔ m ∈ M ∧ m.2 ≠ n := by
 unfold rmM
 rw [outM_fold, sortT_mem, ofM_mem]
 constructor
 ·
  rintro ⟨h, h1⟩
  refine ⟨h, fun e => ?_⟩
  exact h1 (by rw [← e]; exact h) e
 ·
  rintro ⟨h, h1⟩; exact ⟨h, fun _ => h1⟩

structure Rel10 (S : Grs10) (N : List (List UInt8)) (M : List Who10) : Prop where
 names : N = names10 S
 mem : ∀ g n, (g, n) ∈ M ↔ in10 S g n = true

section
variable {S : Grs10} {N : List (List UInt8)} {M : List Who10} {k : Nat}
theorem Rel10.nil : Rel10 [] [] [] := ⟨rfl, fun _ _ => by simp [in10, mem10, getV, hasV]⟩
theorem Rel10.has (h : Rel10 S N M) (g : List UInt8) : hasT N g = hasV S g := by
 rw [Bool.eq_iff_iff, hasT_iff, hasV_names, h.names]
theorem Rel10.len (h : Rel10 S N M) : N.length = S.length := by rw [h.names, names10_length]
theorem mem10_rise (hg : Good10 S k) (g : List UInt8) : RiseV (mem10 S g) := by
 cases hh : hasV S g with
 | false => rw [mem10_none hh]; exact List.Pairwise.nil
 | true =>
  obtain ⟨p, hp, rfl⟩ := hasV_iff.1 hh
  rw [mem10_at hg.rise hp]; exact hg.sets p hp
theorem Rel10.who (h : Rel10 S N M) (hg : Good10 S k) (g : List UInt8) : sortT (whoM M g) = names10 (mem10 S g) :=
 sortT_eq (mem10_rise hg g).names fun n => by rw [← hasV_names, whoM_mem, h.mem]; rfl

theorem in10_put (hr : RiseV S) {g : List UInt8} (hh : hasV S g = false) (g' n : List UInt8) : in10 (putV S g []) g' n = in10 S g' n := by
 rw [Bool.eq_iff_iff, in10_iff (riseV_put hr g []), in10_iff hr]
 constructor
 ·
  rintro ⟨p, hp, rfl, h⟩
  rcases mem_putV.1 hp with rfl | ⟨hp, _⟩
  ·
   cases h
  ·
   exact ⟨p, hp, rfl, h⟩
 ·
  rintro ⟨p, hp, rfl, h⟩
  exact ⟨p, mem_putV.2 (.inr ⟨hp, fun e => by rw [hasV_false] at hh; exact hh (by rw [← e]; exact List.mem_map.2 ⟨p, hp, rfl⟩)⟩), rfl, h⟩
theorem in10_del (hr : RiseV S) (g g' n : List UInt8) : in10 (delV S g) g' n = true ↔ in10 S g' n = true ∧ g' ≠ g := by
 rw [in10_iff (riseV_del hr g), in10_iff hr]
 constructor
 ·
  rintro ⟨p, hp, rfl, h⟩
  obtain ⟨h1, h2⟩ := mem_delV.1 hp
  exact ⟨⟨p, h1, rfl, h⟩, h2⟩
 ·
  rintro ⟨⟨p, hp, rfl, h⟩, h2⟩
  exact ⟨p, mem_delV.2 ⟨hp, h2⟩, rfl, h⟩
theorem in10_upd (hr : RiseV S) (f : Set10 → Set10) (g g' n : List UInt8) : in10 (updV f S g) g' n = true ↔ ∃ p ∈ S, p.1 = g' ∧ hasV (if g' = g then f p.2 else p.2) n = true := by
 rw [in10_iff (riseV_upd hr f g)]
 constructor
 ·
  rintro ⟨q, hq, rfl, h⟩
  obtain ⟨p, hp, rfl⟩ := List.mem_map.1 hq
  refine ⟨p, hp, ?_⟩
  by_cases e : p.1 = g
  ·
   simp only [e, if_true] at h ⊢; exact ⟨trivial, h⟩
  ·
   simp only [e, if_false] at h ⊢; exact ⟨trivial, h⟩
 ·
  rintro ⟨p, hp, rfl, h⟩
  refine ⟨_, List.mem_map.2 ⟨p, hp, rfl⟩, ?_⟩
  by_cases e : p.1 = g
  ·
   simp only [e, if_true] at h ⊢; exact ⟨trivial, h⟩
  ·
   simp only [e, if_false] at h ⊢; exact ⟨trivial, h⟩
theorem in10_map (hr : RiseV S) (f : Set10 → Set10) (g n : List UInt8) : in10 (S.map fun p => (p.1, f p.2)) g n = true ↔ ∃ p ∈ S, p.1 = g ∧ hasV (f p.2) n = true := by
 rw [in10_iff (riseV_names hr (map_names f S))]
 constructor
 ·
  rintro ⟨q, hq, rfl, h⟩
  obtain ⟨p, hp, rfl⟩ := List.mem_map.1 hq
  exact ⟨p, hp, rfl, h⟩
 ·
  rintro ⟨p, hp, rfl, h⟩
  exact ⟨_, List.mem_map.2 ⟨p, hp, rfl⟩, rfl, h⟩

theorem maE10_zero {g : List UInt8} (h : maE10 S g = 0) : name5 g = true ∧ hasV S g = false ∧ S.length < 6 := by
 unfold maE10 at h
 split at h
 case isFalse => cases h
 case isTrue hn =>
 split at h
 ·
  cases h
 ·
  rename_i hh
  split at h
  ·
   cases h
  ·
   exact ⟨hn, by simpa using hh, by omega⟩
theorem findE10_zero {g : List UInt8} {l : List (List UInt8)} (h : findE10 S g l = 0) : name5 g = true ∧ l.all name5 = true ∧ hasV S g = true := by
 unfold findE10 at h
 split at h
 case isFalse => cases h
 case isTrue hn =>
 split at h
 ·
  rename_i hh
  simp only [Bool.and_eq_true] at hn
  exact ⟨hn.1, hn.2, hh⟩
 ·
  cases h
theorem joE10_zero {g n : List UInt8} (h : joE10 S g n = 0) : findE10 S g [n] = 0 ∧ in10 S g n = false := by
 unfold joE10 at h
 split at h
 case isFalse hf => exact absurd h hf
 case isTrue hf =>
 split at h
 ·
  cases h
 ·
  rename_i hi; exact ⟨hf, by simpa using hi⟩
theorem reE10_zero {o n : List UInt8} (h : reE10 S o n = 0) : name5 n = true ∧ (n ≠ o → of10 S n = []) := by
 unfold reE10 at h
 split at h
 case isFalse => cases h
 case isTrue hn =>
 split at h
 ·
  cases h
 ·
  rename_i hi
  refine ⟨hn, fun e => ?_⟩
  by_cases e2 : of10 S n = []
  ·
   exact e2
  ·
   exact absurd ⟨e, e2⟩ hi

theorem Rel10.make (h : Rel10 S N M) (hg : Good10 S k) {g : List UInt8} (he : maE10 S g = 0) : Rel10 (maS10 S g) (sortT (N ++ [g])) M := by
 obtain ⟨hn, hh, h6⟩ := maE10_zero he
 unfold maS10
 rw [if_pos he]
 refine ⟨sortT_eq (riseV_put hg.rise g []).names fun x => ?_, fun g' n => by rw [h.mem, in10_put hg.rise hh]⟩
 rw [names_put, h.names]
 simp [or_comm]
theorem Rel10.drop (h : Rel10 S N M) (hg : Good10 S k) {g : List UInt8} (he : drE10 S g = 0) : Rel10 (drS10 S g) (dropN N g) (dropM M g) := by
 unfold drS10
 rw [if_pos he]
 refine ⟨riseT_ext ?_ (riseV_del hg.rise g).names fun x => ?_, fun g' n => ?_⟩
 ·
  rw [h.names]; exact hg.rise.names.filter _
 ·
  rw [names_del, h.names]; simp [dropN]
 ·
  rw [in10_del hg.rise, ← h.mem]
  simp [dropM]
theorem Rel10.join (h : Rel10 S N M) (hg : Good10 S k) {g n : List UInt8} (he : joE10 S g n = 0) : Rel10 (joS10 S g n) N (M ++ [(g, n)]) := by
 obtain ⟨hf, hi⟩ := joE10_zero he
 obtain ⟨_, _, hh⟩ := findE10_zero hf
 unfold joS10
 rw [if_pos he]
 refine ⟨by rw [h.names, updV_names], fun g' n' => ?_⟩
 rw [in10_upd hg.rise, List.mem_append, h.mem, in10_iff hg.rise, List.mem_singleton]
 constructor
 ·
  rintro (⟨p, hp, rfl, h'⟩ | e)
  ·
   refine ⟨p, hp, rfl, ?_⟩
   split
   ·
    exact hasV_put.2 (.inr h')
   ·
    exact h'
  ·
   injection e with e1 e2
   subst e1 e2
   obtain ⟨p, hp, e⟩ := hasV_iff.1 hh
   exact ⟨p, hp, e, by simp [hasV_put]⟩
 ·
  rintro ⟨p, hp, rfl, h'⟩
  by_cases e : p.1 = g
  ·
   rw [if_pos e] at h'
   rcases hasV_put.1 h' with h' | h'
   ·
    right; rw [e, h']
   ·
    exact .inl ⟨p, hp, rfl, h'⟩
  ·
   rw [if_neg e] at h'
   exact .inl ⟨p, hp, rfl, h'⟩
theorem Rel10.leave (h : Rel10 S N M) (hg : Good10 S k) {g n : List UInt8} (he : leE10 S g n = 0) : Rel10 (leS10 S g n) N (outM M g n) := by
 unfold leS10
 rw [if_pos he]
 refine ⟨by rw [h.names, updV_names], fun g' n' => ?_⟩
 rw [in10_upd hg.rise, outM_mem, h.mem, in10_iff hg.rise]
 constructor
 ·
  rintro ⟨⟨p, hp, rfl, h'⟩, h2⟩
  refine ⟨p, hp, rfl, ?_⟩
  split
  ·
   rename_i e; exact hasV_del.2 ⟨h', h2 e⟩
  ·
   exact h'
 ·
  rintro ⟨p, hp, rfl, h'⟩
  by_cases e : p.1 = g
  ·
   rw [if_pos e] at h'
   have := hasV_del.1 h'
   exact ⟨⟨p, hp, rfl, this.1⟩, fun _ => this.2⟩
  ·
   rw [if_neg e] at h'
   exact ⟨⟨p, hp, rfl, h'⟩, fun e' => absurd e' e⟩
theorem Rel10.remove (h : Rel10 S N M) (hg : Good10 S k) (n : List UInt8) : Rel10 (rmS10 S n) N (rmM M n) := by
 refine ⟨by rw [h.names]; exact (map_names _ S).symm, fun g' n' => ?_⟩
 unfold rmS10
 rw [in10_map hg.rise (fun l => delV l n), rmM_mem, h.mem, in10_iff hg.rise]
 constructor
 ·
  rintro ⟨⟨p, hp, rfl, h'⟩, h2⟩; exact ⟨p, hp, rfl, hasV_del.2 ⟨h', h2⟩⟩
 ·
  rintro ⟨p, hp, rfl, h'⟩
  have := hasV_del.1 h'
  exact ⟨⟨p, hp, rfl, this.1⟩, this.2⟩
theorem ren10_has {o n x : List UInt8} {l : Set10} : hasV (ren10 o n l) x = true ↔ (hasV l o = true ∧ (x = n ∨ (hasV l x = true ∧ x ≠ o))) ∨ (hasV l o = false ∧ hasV l x = true) := by
 unfold ren10
 cases ho : hasV l o
 ·
  simp
 ·
  simp [hasV_put, hasV_del]
theorem Rel10.rename (h : Rel10 S N M) (hg : Good10 S k) {o n : List UInt8} (he : reE10 S o n = 0) : Rel10 (reS10 S o n) N (renM M o n) := by
 obtain ⟨hn, hne⟩ := reE10_zero he
 unfold reS10
 rw [if_pos he]
 refine ⟨by rw [h.names]; exact (map_names _ S).symm, fun g' n' => ?_⟩
 rw [in10_map hg.rise (ren10 o n)]
 simp only [renM, List.mem_map]
 constructor
 ·
  rintro ⟨m, hm, e⟩
  obtain ⟨a, b⟩ := m
  obtain ⟨p, hp, e1, h'⟩ := (in10_iff hg.rise).1 ((h.mem a b).1 hm)
  by_cases eb : b = o
  ·
   subst eb
   simp only [beq_self_eq_true, if_true] at e
   injection e with e2 e3
   subst e2 e3
   exact ⟨p, hp, e1, ren10_has.2 (.inl ⟨h', .inl rfl⟩)⟩
  ·
   have : (b == o) = false := by simpa using eb
   simp only [this, Bool.false_eq_true, if_false] at e
   injection e with e2 e3
   subst e2 e3
   refine ⟨p, hp, e1, ren10_has.2 ?_⟩
   cases ho : hasV p.2 o
   ·
    exact .inr ⟨rfl, h'⟩
   ·
    exact .inl ⟨rfl, .inr ⟨h', eb⟩⟩
 ·
  rintro ⟨p, hp, rfl, h'⟩
  rcases ren10_has.1 h' with ⟨ho, e | ⟨hx, hxo⟩⟩ | ⟨ho, hx⟩
  ·
   subst e
   exact ⟨(p.1, o), (h.mem _ _).2 ((in10_iff hg.rise).2 ⟨p, hp, rfl, ho⟩), by simp⟩
  ·
   exact ⟨(p.1, n'), (h.mem _ _).2 ((in10_iff hg.rise).2 ⟨p, hp, rfl, hx⟩), by simp [hxo]⟩
  ·
   refine ⟨(p.1, n'), (h.mem _ _).2 ((in10_iff hg.rise).2 ⟨p, hp, rfl, hx⟩), ?_⟩
   have : n' ≠ o := fun e => by rw [e, ho] at hx; cases hx
   simp [this]

/-! ### what the laws ask -/
theorem removed10 (hr : RiseV S) (n : List UInt8) : of10 (rmS10 S n) n = [] := by
 refine List.eq_nil_iff_forall_not_mem.2 fun g hm => ?_
 unfold rmS10 at hm
 rw [of10_mem (riseV_names hr (map_names (fun l : Set10 => delV l n) S)), in10_map hr (fun l => delV l n)] at hm
 obtain ⟨p, hp, _, h⟩ := hm
 exact (hasV_del.1 h).2 rfl
theorem joS10_names (g n : List UInt8) : names10 (joS10 S g n) = names10 S := by
 unfold joS10
 split
 ·
  exact updV_names _ S g
 ·
  rfl
end
end Go.Proofs.YthlgmkfofebbfaaGreatDoor


namespace Go.Proofs.YthlgmkfofebbfaaGreatDoor
open Go.RowKit Go.Maps

structure U11 where
 hs : List UInt8
 ml : List UInt8
 dis : Bool
 gs : List (List UInt8)
abbrev Acc11 := RowV (List UInt8 × Bool)
abbrev Usr11 := RowV U11
def tell1 (L : Row7) (S : Grs10) (n : List UInt8) (a : List UInt8 × Bool) : U11 := ⟨a.1, getE L n, a.2, of10 S n⟩
def tell11 (A : Acc11) (L : Row7) (S : Grs10) : Usr11 := A.map fun p => (p.1, tell1 L S p.1 p.2)

section
variable {V : Type}
theorem extV11 : ∀ {a b : RowV V}, RiseV a → RiseV b → (∀ x, x ∈ a ↔ x ∈ b) → a = b
 | [], [], _, _, _ => rfl
 | [], y :: s, _, _, h => absurd ((h y).2 (by simp)) (by simp)
 | x :: r, [], _, _, h => absurd ((h x).1 (by simp)) (by simp)
 | x :: r, y :: s, ha, hb, h => by
  obtain ⟨a1, a2⟩ := List.pairwise_cons.1 ha
  obtain ⟨b1, b2⟩ := List.pairwise_cons.1 hb
  have e : x = y := by
   rcases List.mem_cons.1 ((h x).1 (by simp)) with e | hx
   ·
    exact e
   ·
    rcases List.mem_cons.1 ((h y).2 (by simp)) with e | hy
    ·
     exact e.symm
    ·
     exact absurd (b1 _ hx) (by rw [before_anti (a1 _ hy)]; exact Bool.noConfusion)
  subst e
  rw [extV11 a2 b2 fun z => ?_]
  constructor
  ·
   intro hz
   rcases List.mem_cons.1 ((h z).1 (by simp [hz])) with e | h'
   ·
    subst e; exact absurd (a1 _ hz) (by rw [before_irrefl]; exact Bool.noConfusion)
   ·
    exact h'
  ·
   intro hz
   rcases List.mem_cons.1 ((h z).2 (by simp [hz])) with e | h'
   ·
    subst e; exact absurd (b1 _ hz) (by rw [before_irrefl]; exact Bool.noConfusion)
   ·
    exact h'
theorem ext11 {a b : RowV V} (ha : RiseV a) (hb : RiseV b) (h : ∀ k, getV a k = getV b k) : a = b :=
 extV11 ha hb fun x => by rw [← getV_some (k := x.1) (v := x.2) ha, ← getV_some (k := x.1) (v := x.2) hb, h]
theorem get_put11 {L : RowV V} (hr : RiseV L) (k : List UInt8) (v : V) (x : List UInt8) : getV (putV L k v) x = if x = k then some v else getV L x := by
 refine Option.ext fun y => ?_
 rw [getV_some (riseV_put hr k v), mem_putV]
 by_cases e : x = k
 ·
  subst e
  rw [if_pos rfl]
  constructor
  ·
   rintro (h | ⟨_, h⟩)
   ·
    injection h with _ h; rw [h]
   ·
    exact absurd rfl h
  ·
   intro h; injection h with h; rw [h]; exact .inl rfl
 ·
  rw [if_neg e, getV_some hr]
  constructor
  ·
   rintro (h | ⟨h, _⟩)
   ·
    injection h with h; exact absurd h e
   ·
    exact h
  ·
   intro h; exact .inr ⟨h, e⟩
theorem get_del11 {L : RowV V} (hr : RiseV L) (k x : List UInt8) : getV (delV L k) x = if x = k then none else getV L x := by
 refine Option.ext fun y => ?_
 rw [getV_some (riseV_del hr k), mem_delV]
 by_cases e : x = k
 ·
  subst e
  rw [if_pos rfl]
  constructor
  ·
   rintro ⟨_, h⟩; exact absurd rfl h
  ·
   intro h; cases h
 ·
  rw [if_neg e, getV_some hr]
  exact ⟨fun h => h.1, fun h => ⟨h, e⟩⟩
end

section
variable {A : Acc11} {L : Row7} {S : Grs10}
theorem tell_names (A : Acc11) (L : Row7) (S : Grs10) : names10 (tell11 A L S) = names10 A := by
 unfold tell11 names10; rw [List.map_map]; rfl
theorem tell_len (A : Acc11) (L : Row7) (S : Grs10) : (tell11 A L S).length = A.length := List.length_map _
theorem tell_rise (h : RiseV A) : RiseV (tell11 A L S) := riseV_names h (tell_names A L S)
theorem tell_has (A : Acc11) (L : Row7) (S : Grs10) (k : List UInt8) : hasV (tell11 A L S) k = hasV A k := by
 rw [Bool.eq_iff_iff, hasV_names, hasV_names, tell_names]
theorem tell_get (h : RiseV A) (k : List UInt8) : getV (tell11 A L S) k = (getV A k).map (tell1 L S k) := by
 refine Option.ext fun y => ?_
 rw [getV_some (tell_rise h)]
 unfold tell11
 rw [List.mem_map]
 constructor
 ·
  rintro ⟨p, hp, e⟩
  injection e with e1 e2
  subst e1
  rw [(getV_some (k := p.1) (v := p.2) h).2 hp, ← e2]; rfl
 ·
  intro hy
  cases hg : getV A k with
  | none => rw [hg] at hy; cases hy
  | some a =>
   rw [hg] at hy
   injection hy with hy
   exact ⟨(k, a), (getV_some h).1 hg, by rw [← hy]⟩
theorem get_someA {k : List UInt8} (h : hasV A k = true) : ∃ a, getV A k = some a := getV_has h

/-! ### addresses -/
theorem getE_del (L : Row7) (n x : List UInt8) : getE (delE L n) x = if x = n then [] else getE L x := by
 by_cases e : x = n
 ·
  subst e; rw [if_pos rfl]; exact getE_none (hasE_del L x)
 ·
  rw [if_neg e]
  cases h : hasE L x with
  | false => rw [getE_none h, getE_none (by rw [hasE_del_ne e]; exact h)]
  | true =>
   have h1 := hasE_mem h
   unfold getE delE
   have : ∀ M : Row7, ((M.filter fun p => !(p.1 == n)).find? fun p => p.1 == x) = M.find? fun p => p.1 == x := by
    intro M
    induction M with
    | nil => rfl
    | cons y r ih =>
     by_cases ey : y.1 = n
     ·
      have : (y.1 == x) = false := by simp [ey]; exact fun h => e h.symm
      rw [List.filter_cons_of_neg (by simp [ey]), ih, List.find?_cons_of_neg (by simp [this])]
     ·
      rw [List.filter_cons_of_pos (by simp [ey])]
      by_cases ex : y.1 = x
      ·
       rw [List.find?_cons_of_pos (by simp [ex]), List.find?_cons_of_pos (by simp [ex])]
      ·
       rw [List.find?_cons_of_neg (by simp [ex]), List.find?_cons_of_neg (by simp [ex]), ih]
   rw [this]
theorem getE_put (hr : Rise7 L) (n a x : List UInt8) : getE (putE L n a) x = if x = n then a else getE L x := by
 by_cases e : x = n
 ·
  subst e; rw [if_pos rfl, get_put hr]
 ·
  rw [if_neg e]
  cases h : hasE L x with
  | true =>
   have h1 := hasE_mem h
   exact get_mem (rise_put hr n a) (q := (x, getE L x)) (mem_putE.2 (.inr ⟨h1, e⟩))
  | false =>
   rw [getE_none h]
   refine getE_none ?_
   cases h2 : hasE (putE L n a) x with
   | false => rfl
   | true =>
    obtain ⟨p, hp, hx⟩ := hasE_iff.1 h2
    rcases mem_putE.1 hp with rfl | ⟨hp, _⟩
    ·
     exact absurd hx.symm e
    ·
     rw [hasE_iff.2 ⟨p, hp, hx⟩] at h; cases h

/-! ### groups -/
theorem rel11 (hr : RiseV S) : ∃ M, Rel10 S (names10 S) M :=
 ⟨S.flatMap fun p => p.2.map fun m => (p.1, m.1), rfl, fun g n => by
  rw [in10_iff hr, List.mem_flatMap]
  constructor
  ·
   rintro ⟨p, hp, h⟩
   obtain ⟨m, hm, e⟩ := List.mem_map.1 h
   injection e with e1 e2
   exact ⟨p, hp, e1, hasV_iff.2 ⟨m, hm, e2⟩⟩
  ·
   rintro ⟨p, hp, e1, h⟩
   obtain ⟨m, hm, e2⟩ := hasV_iff.1 h
   exact ⟨p, hp, List.mem_map.2 ⟨m, hm, by rw [e1, e2]⟩⟩⟩
variable {k : Nat}
theorem in_make (hg : Good10 S k) {g : List UInt8} (he : maE10 S g = 0) (x n : List UInt8) : in10 (maS10 S g) x n = in10 S x n := by
 unfold maS10
 rw [if_pos he, in10_put hg.rise (maE10_zero he).2.1]
theorem in_drop (hg : Good10 S k) {g : List UInt8} (he : drE10 S g = 0) (x n : List UInt8) : in10 (drS10 S g) x n = true ↔ in10 S x n = true ∧ x ≠ g := by
 unfold drS10
 rw [if_pos he, in10_del hg.rise]
theorem in_join (hg : Good10 S k) {g n : List UInt8} (he : joE10 S g n = 0) (x m : List UInt8) : in10 (joS10 S g n) x m = true ↔ in10 S x m = true ∨ (x = g ∧ m = n) := by
 obtain ⟨M, hM⟩ := rel11 hg.rise
 rw [← (hM.join hg he).mem, List.mem_append, hM.mem]
 simp
theorem in_leave (hg : Good10 S k) {g n : List UInt8} (he : leE10 S g n = 0) (x m : List UInt8) : in10 (leS10 S g n) x m = true ↔ in10 S x m = true ∧ (x = g → m ≠ n) := by
 obtain ⟨M, hM⟩ := rel11 hg.rise
 rw [← (hM.leave hg he).mem, outM_mem, hM.mem]
theorem in_remove (hg : Good10 S k) (n x m : List UInt8) : in10 (rmS10 S n) x m = true ↔ in10 S x m = true ∧ m ≠ n := by
 obtain ⟨M, hM⟩ := rel11 hg.rise
 rw [← (hM.remove hg n).mem, rmM_mem, hM.mem]
theorem in_rename (hg : Good10 S k) {o n : List UInt8} (he : reE10 S o n = 0) (hn : of10 S n = []) (hon : o ≠ n) (x m : List UInt8) : in10 (reS10 S o n) x m = true ↔ (m = n ∧ in10 S x o = true) ∨ (m ≠ n ∧ m ≠ o ∧ in10 S x m = true) := by
 obtain ⟨M, hM⟩ := rel11 hg.rise
 rw [← (hM.rename hg he).mem, ← hM.mem, ← hM.mem]
 unfold renM
 rw [List.mem_map]
 have hnn : ∀ y, (y, n) ∉ M := fun y hy => by
  have h1 := (of10_mem hg.rise).2 ((hM.mem y n).1 hy)
  rw [hn] at h1; cases h1
 constructor
 ·
  rintro ⟨y, hy, e⟩
  by_cases ey : y.2 = o
  ·
   rw [if_pos (by simp [ey])] at e
   injection e with e1 e2
   exact .inl ⟨e2.symm, by rw [← e1, ← ey]; exact hy⟩
  ·
   rw [if_neg (by simp [ey])] at e
   subst e
   exact .inr ⟨fun e => hnn x (by rw [← e]; exact hy), ey, hy⟩
 ·
  rintro (⟨rfl, h⟩ | ⟨h1, h2, h⟩)
  ·
   exact ⟨_, h, by simp⟩
  ·
   exact ⟨_, h, by simp [h2]⟩

theorem ofT {S' : Grs10} (hr : RiseV S) (hr' : RiseV S') {n n' : List UInt8} (h : ∀ g, in10 S' g n' = true ↔ in10 S g n = true) : of10 S' n' = of10 S n :=
 riseT_ext (of10_rise hr' n') (of10_rise hr n) fun g => by rw [of10_mem hr', of10_mem hr, h]
theorem of_make (hg : Good10 S k) {g : List UInt8} (he : maE10 S g = 0) (n : List UInt8) : of10 (maS10 S g) n = of10 S n :=
 ofT hg.rise (good_make hg g).rise fun x => by rw [in_make hg he]
theorem of_drop (hg : Good10 S k) {g : List UInt8} (he : drE10 S g = 0) (n : List UInt8) : of10 (drS10 S g) n = dropN (of10 S n) g :=
 riseT_ext (of10_rise (good_drop hg g).rise n) ((of10_rise hg.rise n).filter _) fun x => by
  rw [of10_mem (good_drop hg g).rise, in_drop hg he, dropN, List.mem_filter, of10_mem hg.rise]
  simp
theorem of_join (hg : Good10 S k) {g n : List UInt8} (he : joE10 S g n = 0) (m : List UInt8) : of10 (joS10 S g n) m = if m = n then sortT (of10 S m ++ [g]) else of10 S m := by
 by_cases e : m = n
 ·
  subst e
  rw [if_pos rfl]
  refine riseT_ext (of10_rise (good_join hg g m).rise m) (sortT_rise _) fun x => ?_
  rw [of10_mem (good_join hg g m).rise, in_join hg he, sortT_mem, List.mem_append, of10_mem hg.rise]
  simp
 ·
  rw [if_neg e]
  exact ofT hg.rise (good_join hg g n).rise fun x => by rw [in_join hg he]; simp [e]
theorem of_leave (hg : Good10 S k) {g n : List UInt8} (he : leE10 S g n = 0) (m : List UInt8) : of10 (leS10 S g n) m = if m = n then dropN (of10 S m) g else of10 S m := by
 by_cases e : m = n
 ·
  subst e
  rw [if_pos rfl]
  refine riseT_ext (of10_rise (good_leave hg g m).rise m) ((of10_rise hg.rise m).filter _) fun x => ?_
  rw [of10_mem (good_leave hg g m).rise, in_leave hg he, dropN, List.mem_filter, of10_mem hg.rise]
  simp
 ·
  rw [if_neg e]
  exact ofT hg.rise (good_leave hg g n).rise fun x => by rw [in_leave hg he]; simp [e]
theorem of_remove (hg : Good10 S k) (n m : List UInt8) : of10 (rmS10 S n) m = if m = n then [] else of10 S m := by
 by_cases e : m = n
 ·
  subst e; rw [if_pos rfl]; exact removed10 hg.rise m
 ·
  rw [if_neg e]
  exact ofT hg.rise (good_remove hg n).rise fun x => by rw [in_remove hg]; simp [e]
theorem of_rename (hg : Good10 S k) {o n : List UInt8} (he : reE10 S o n = 0) (hn : of10 S n = []) (hon : o ≠ n) (m : List UInt8) : of10 (reS10 S o n) m = if m = n then of10 S o else if m = o then [] else of10 S m := by
 by_cases e : m = n
 ·
  subst e; rw [if_pos rfl]
  exact ofT hg.rise (good_rename hg o m).rise fun x => by rw [in_rename hg he hn hon]; simp
 ·
  rw [if_neg e]
  by_cases e2 : m = o
  ·
   subst e2; rw [if_pos rfl]
   refine List.eq_nil_iff_forall_not_mem.2 fun g hgm => ?_
   rw [of10_mem (good_rename hg m n).rise, in_rename hg he hn hon] at hgm
   simp [e] at hgm
  ·
   rw [if_neg e2]
   exact ofT hg.rise (good_rename hg o n).rise fun x => by rw [in_rename hg he hn hon]; simp [e, e2]
end
end Go.Proofs.YthlgmkfofebbfaaGreatDoor


namespace Go.Proofs.YthlgmkfofebbfaaGreatDoor
open Go.RowKit Go.Maps

structure Good11 (A : Acc11) (L : Row7) (S : Grs10) (k : Nat) : Prop where
 rise : RiseV A
 few : A.length ≤ 12
 nm : ∀ p ∈ A, name5 p.1 = true ∧ hash5 p.2.1 = true
 mir : ∃ M, Mirror9 L M
 all : ∀ x ∈ L, May9 x
 has : ∀ x ∈ L, hasV A x.1 = true
 lfew : L.length ≤ k
 grp : Good10 S k
 mem : ∀ g n, in10 S g n = true → hasV A n = true
theorem Good11.nil : Good11 [] [] [] 0 := ⟨List.Pairwise.nil, by simp, (fun _ h => nomatch h), ⟨[], Mirror9.nil⟩, (fun _ h => nomatch h), (fun _ h => nomatch h), Nat.le_refl _, Good10.nil, fun g n h => by simp [in10, mem10, getV, hasV] at h⟩

def crF11 (a b c d : Bool) : Int := if a then (if b then (if c then 9 else if d then 7 else 0) else 4) else 10
def deF11 (a c : Bool) : Int := if a then (if c then 0 else 8) else 10
def shF11 (a b c d : Bool) : Int := if a then (if b then (if c then (if d then 12 else 0) else 8) else 4) else 10
def smF11 (a b c d : Bool) : Int := if a then (if b then (if c then (if d then 9 else 0) else 8) else 11) else 10
def diF11 (a c d : Bool) : Int := if a then (if c then (if d then 12 else 0) else 8) else 10
def rnF11 (a b c d : Bool) : Int := if a then (if b then (if c then (if d then 9 else 0) else 8) else 10) else 10
def mbF11 (a b c d e : Bool) (x : Int) : Int := if a then (if b then (if c then (if d then (if e then x else 0) else 8) else 8) else 10) else 10

/-! ### of the code -/
def disA (A : Acc11) (n : List UInt8) : Bool := match getV A n with | some a => a.2 | none => false
def hasA (A : Acc11) (n : List UInt8) : List UInt8 := match getV A n with | some a => a.1 | none => []
def isM11 (m : List UInt8) : Bool := decide (m = []) || mail5 m
def crE11 (A : Acc11) (n h : List UInt8) : Int := crF11 (name5 n) (hash5 h) (hasV A n) (decide (12 ≤ A.length))
def crA11 (A : Acc11) (n h : List UInt8) : Acc11 := if crE11 A n h = 0 then putV A n (h, false) else A
def deE11 (A : Acc11) (n : List UInt8) : Int := deF11 (name5 n) (hasV A n)
def shE11 (A : Acc11) (n h : List UInt8) : Int := shF11 (name5 n) (hash5 h) (hasV A n) (disA A n)
def shA11 (A : Acc11) (n h : List UInt8) : Acc11 := if shE11 A n h = 0 then putV A n (h, disA A n) else A
def smE11 (A : Acc11) (L : Row7) (n m : List UInt8) : Int := smF11 (name5 n) (isM11 m) (hasV A n) (decide (seE9 L n m = 9))
def smL11 (A : Acc11) (L : Row7) (n m : List UInt8) : Row7 := if smE11 A L n m = 0 then seL9 L n m else L
def diE11 (A : Acc11) (n : List UInt8) (b : Bool) : Int := diF11 (name5 n) (hasV A n) (disA A n == b)
def diA11 (A : Acc11) (n : List UInt8) (b : Bool) : Acc11 := if diE11 A n b = 0 then putV A n (hasA A n, b) else A
def rnE11 (A : Acc11) (o n : List UInt8) : Int := rnF11 (name5 o) (name5 n) (hasV A o) (hasV A n)
def rnA11 (A : Acc11) (o n : List UInt8) : Acc11 := if rnE11 A o n = 0 then delV (putV A n (hasA A o, disA A o)) o else A
def rnL11 (A : Acc11) (L : Row7) (o n : List UInt8) : Row7 := if rnE11 A o n = 0 then reL9 L o n else L
def rnS11 (A : Acc11) (S : Grs10) (o n : List UInt8) : Grs10 := if rnE11 A o n = 0 then reS10 S o n else S
def ahead11 (A : Acc11) (g n : List UInt8) : Int := if name5 g then (if name5 n then (if hasV A n then 0 else 8) else 10) else 10
def joE11 (A : Acc11) (S : Grs10) (g n : List UInt8) : Int := if ahead11 A g n = 0 then joE10 S g n else ahead11 A g n
def joS11 (A : Acc11) (S : Grs10) (g n : List UInt8) : Grs10 := if ahead11 A g n = 0 then joS10 S g n else S
def leE11 (A : Acc11) (S : Grs10) (g n : List UInt8) : Int := if ahead11 A g n = 0 then leE10 S g n else ahead11 A g n
def leS11 (A : Acc11) (S : Grs10) (g n : List UInt8) : Grs10 := if ahead11 A g n = 0 then leS10 S g n else S

/-! ### of the document -/
def disU (l : Usr11) (n : List UInt8) : Bool := match getV l n with | some u => u.dis | none => false
def gsU (l : Usr11) (n : List UInt8) : List (List UInt8) := match getV l n with | some u => u.gs | none => []
def setU (l : Usr11) (n : List UInt8) (f : U11 → U11) : Usr11 := match getV l n with | some u => putV l n (f u) | none => l
def badU (l : Usr11) (n a : List UInt8) : Bool := l.any fun p => !(a == []) && (p.2.ml == a) && !(p.1 == n)
def foldM11 (m : List UInt8) : List UInt8 := if mail5 m then fold5 m else []
def dcrE (l : Usr11) (n h : List UInt8) : Int := crF11 (name5 n) (hash5 h) (hasV l n) (decide (12 ≤ l.length))
def dcrL (l : Usr11) (n h : List UInt8) : Usr11 := if dcrE l n h = 0 then putV l n ⟨h, [], false, []⟩ else l
def ddeE (l : Usr11) (n : List UInt8) : Int := deF11 (name5 n) (hasV l n)
def ddeL (l : Usr11) (n : List UInt8) : Usr11 := if ddeE l n = 0 then delV l n else l
def dshE (l : Usr11) (n h : List UInt8) : Int := shF11 (name5 n) (hash5 h) (hasV l n) (disU l n)
def dshL (l : Usr11) (n h : List UInt8) : Usr11 := if dshE l n h = 0 then setU l n (fun u => { u with hs := h }) else l
def dsmE (l : Usr11) (n m : List UInt8) : Int := smF11 (name5 n) (isM11 m) (hasV l n) (badU l n (foldM11 m))
def dsmL (l : Usr11) (n m : List UInt8) : Usr11 := if dsmE l n m = 0 then setU l n (fun u => { u with ml := foldM11 m }) else l
def ddiE (l : Usr11) (n : List UInt8) (b : Bool) : Int := diF11 (name5 n) (hasV l n) (disU l n == b)
def ddiL (l : Usr11) (n : List UInt8) (b : Bool) : Usr11 := if ddiE l n b = 0 then setU l n (fun u => { u with dis := b }) else l
def drnE (l : Usr11) (o n : List UInt8) : Int := rnF11 (name5 o) (name5 n) (hasV l o) (hasV l n)
def drnL (l : Usr11) (o n : List UInt8) : Usr11 := if drnE l o n = 0 then (match getV l o with | some u => putV (delV l o) n u | none => l) else l
def dmaE11 (N : List (List UInt8)) (g : List UInt8) : Int := if name5 g then (if hasT N g then 9 else if 6 ≤ N.length then 7 else 0) else 10
def dmaN11 (N : List (List UInt8)) (g : List UInt8) : List (List UInt8) := if dmaE11 N g = 0 then sortT (N ++ [g]) else N
def ddrE11 (N : List (List UInt8)) (g : List UInt8) : Int := if name5 g then (if hasT N g then 0 else 8) else 10
def ddrN11 (N : List (List UInt8)) (g : List UInt8) : List (List UInt8) := if ddrE11 N g = 0 then dropN N g else N
def dropU (l : Usr11) (g : List UInt8) : Usr11 := l.map fun p => (p.1, { p.2 with gs := dropN p.2.gs g })
def ddrL11 (l : Usr11) (N : List (List UInt8)) (g : List UInt8) : Usr11 := if ddrE11 N g = 0 then dropU l g else l
def djoE11 (l : Usr11) (N : List (List UInt8)) (g n : List UInt8) : Int := mbF11 (name5 n) (name5 g) (hasV l n) (hasT N g) (hasT (gsU l n) g) 9
def djoL11 (l : Usr11) (N : List (List UInt8)) (g n : List UInt8) : Usr11 := if djoE11 l N g n = 0 then setU l n (fun u => { u with gs := sortT (u.gs ++ [g]) }) else l
def dleE11 (l : Usr11) (N : List (List UInt8)) (g n : List UInt8) : Int := mbF11 (name5 n) (name5 g) (hasV l n) (hasT N g) (!hasT (gsU l n) g) 12
def dleL11 (l : Usr11) (N : List (List UInt8)) (g n : List UInt8) : Usr11 := if dleE11 l N g n = 0 then setU l n (fun u => { u with gs := dropN u.gs g }) else l

section
variable {A : Acc11} {L : Row7} {S : Grs10} {k : Nat}
theorem Good11.free (h : Good11 A L S k) {n : List UInt8} (hn : hasV A n = false) : hasE L n = false ∧ getE L n = [] ∧ of10 S n = [] := by
 have h1 : hasE L n = false := by
  cases hh : hasE L n with
  | false => rfl
  | true =>
   obtain ⟨x, hx, e⟩ := hasE_iff.1 hh
   have := h.has x hx
   rw [e, hn] at this; cases this
 refine ⟨h1, getE_none h1, List.eq_nil_iff_forall_not_mem.2 fun g hg => ?_⟩
 have := h.mem g n ((of10_mem h.grp.rise).1 hg)
 rw [hn] at this; cases this
theorem Good11.lrise (h : Good11 A L S k) : Rise7 L := by obtain ⟨_, h⟩ := h.mir; exact h.rl
theorem tell_dis (h : Good11 A L S k) (n : List UInt8) : disU (tell11 A L S) n = disA A n := by
 unfold disU disA
 rw [tell_get h.rise]
 cases getV A n <;> rfl
theorem tell_gs (h : Good11 A L S k) {n : List UInt8} : gsU (tell11 A L S) n = of10 S n := by
 unfold gsU
 rw [tell_get h.rise]
 cases hh : getV A n with
 | some a => rfl
 | none => exact (h.free (getV_none.1 hh)).2.2.symm
theorem tell_put (h : RiseV A) (n : List UInt8) (a : List UInt8 × Bool) : tell11 (putV A n a) L S = putV (tell11 A L S) n (tell1 L S n a) :=
 ext11 (tell_rise (riseV_put h n a)) (riseV_put (tell_rise h) n _) fun x => by
  rw [tell_get (riseV_put h n a), get_put11 h, get_put11 (tell_rise h), tell_get h]
  by_cases e : x = n
  ·
   subst e; rw [if_pos rfl, if_pos rfl]; rfl
  ·
   rw [if_neg e, if_neg e]
theorem tell_one (h : RiseV A) {L' : Row7} {S' : Grs10} {n : List UInt8} {f : U11 → U11} (ho : ∀ x, x ≠ n → getE L' x = getE L x ∧ of10 S' x = of10 S x) (hn : ∀ a, getV A n = some a → tell1 L' S' n a = f (tell1 L S n a)) : tell11 A L' S' = setU (tell11 A L S) n f := by
 unfold setU
 rw [tell_get h]
 cases hh : getV A n with
 | none =>
  refine ext11 (tell_rise h) (tell_rise h) fun x => ?_
  show _ = getV (tell11 A L S) x
  rw [tell_get h, tell_get h]
  by_cases e : x = n
  ·
   subst e; rw [hh]; rfl
  ·
   unfold tell1; rw [(ho x e).1, (ho x e).2]
 | some a =>
  refine ext11 (tell_rise h) (riseV_put (tell_rise h) n _) fun x => ?_
  show _ = getV (putV (tell11 A L S) n (f (tell1 L S n a))) x
  rw [tell_get h, get_put11 (tell_rise h), tell_get h]
  by_cases e : x = n
  ·
   subst e; rw [if_pos rfl, hh, ← hn a hh]; rfl
  ·
   rw [if_neg e]; unfold tell1; rw [(ho x e).1, (ho x e).2]

theorem putV_fewA {A : Acc11} {n : List UInt8} {a : List UInt8 × Bool} (hf : A.length ≤ 12) (h : hasV A n = true) : (putV A n a).length ≤ 12 := Nat.le_trans (putV_has a h) hf
theorem Good11.put (h : Good11 A L S k) {n : List UInt8} {a : List UInt8 × Bool} (hn : name5 n = true) (ha : hash5 a.1 = true) (hf : (putV A n a).length ≤ 12) : Good11 (putV A n a) L S (k + 1) := by
 have hk : ∀ x, hasV A x = true → hasV (putV A n a) x = true := fun x hx => hasV_put.2 (.inr hx)
 refine ⟨riseV_put h.rise n a, hf, fun p hp => ?_, h.mir, h.all, fun x hx => hk _ (h.has x hx), Nat.le_succ_of_le h.lfew, h.grp.mono (Nat.le_succ _), fun g m hm => hk _ (h.mem g m hm)⟩
 rcases mem_putV.1 hp with rfl | ⟨hp, _⟩
 ·
  exact ⟨hn, ha⟩
 ·
  exact h.nm p hp
theorem Good11.mono (h : Good11 A L S k) {j : Nat} (hj : k ≤ j) : Good11 A L S j := ⟨h.rise, h.few, h.nm, h.mir, h.all, h.has, Nat.le_trans h.lfew hj, h.grp.mono hj, h.mem⟩
theorem hasA_hash (h : Good11 A L S k) {n : List UInt8} (hn : hasV A n = true) : hash5 (hasA A n) = true := by
 obtain ⟨a, ha⟩ := getV_has hn
 unfold hasA
 rw [ha]
 exact (h.nm (n, a) ((getV_some h.rise).1 ha)).2

def One11 (A' : Acc11) (L' : Row7) (S' : Grs10) (l' : Usr11) (N' : List (List UInt8)) (k : Nat) : Prop := Good11 A' L' S' k ∧ tell11 A' L' S' = l' ∧ names10 S' = N'
theorem crF_zero {a b c d : Bool} (h : crF11 a b c d = 0) : a = true ∧ b = true ∧ c = false ∧ d = false := by revert h; cases a <;> cases b <;> cases c <;> cases d <;> decide
theorem deF_zero {a c : Bool} (h : deF11 a c = 0) : a = true ∧ c = true := by revert h; cases a <;> cases c <;> decide
theorem shF_zero {a b c d : Bool} (h : shF11 a b c d = 0) : a = true ∧ b = true ∧ c = true ∧ d = false := by revert h; cases a <;> cases b <;> cases c <;> cases d <;> decide
theorem smF_zero {a b c d : Bool} (h : smF11 a b c d = 0) : a = true ∧ b = true ∧ c = true ∧ d = false := by revert h; cases a <;> cases b <;> cases c <;> cases d <;> decide
theorem diF_zero {a c d : Bool} (h : diF11 a c d = 0) : a = true ∧ c = true ∧ d = false := by revert h; cases a <;> cases c <;> cases d <;> decide
theorem rnF_zero {a b c d : Bool} (h : rnF11 a b c d = 0) : a = true ∧ b = true ∧ c = true ∧ d = false := by revert h; cases a <;> cases b <;> cases c <;> cases d <;> decide

theorem cr_same (n h : List UInt8) : dcrE (tell11 A L S) n h = crE11 A n h := by unfold dcrE crE11; rw [tell_has, tell_len]
theorem cr_one (hg : Good11 A L S k) (n h : List UInt8) : One11 (crA11 A n h) L S (dcrL (tell11 A L S) n h) (names10 S) (k + 1) := by
 unfold crA11 dcrL
 rw [cr_same]
 by_cases e : crE11 A n h = 0
 ·
  rw [if_pos e, if_pos e]
  obtain ⟨h1, h2, h3, h4⟩ := crF_zero e
  rw [decide_eq_false_iff_not] at h4
  have hf : (putV A n (h, false)).length ≤ 12 := by have := putV_le A n (h, false); omega
  refine ⟨hg.put h1 h2 hf, ?_, rfl⟩
  rw [tell_put hg.rise]
  obtain ⟨_, f2, f3⟩ := hg.free h3
  unfold tell1
  rw [f2, f3]
 ·
  rw [if_neg e, if_neg e]
  exact ⟨hg.mono (Nat.le_succ _), rfl, rfl⟩
theorem de_same (n : List UInt8) : ddeE (tell11 A L S) n = deE11 A n := by unfold ddeE deE11; rw [tell_has]
theorem de_one (hg : Good11 A L S k) (n : List UInt8) (e : deE11 A n = 0) : One11 (delV A n) (delE L n) (rmS10 S n) (ddeL (tell11 A L S) n) (names10 S) (k + 1) := by
 unfold ddeL
 rw [de_same, if_pos e]
 have hk : ∀ x, x ≠ n → hasV A x = true → hasV (delV A n) x = true := fun x hx h => hasV_del.2 ⟨h, hx⟩
 have hm : ∃ M, Mirror9 (delE L n) M := by
  obtain ⟨M, hM⟩ := hg.mir
  cases hh : hasE L n with
  | true => exact ⟨_, hM.del hh⟩
  | false => rw [del_of_not hh]; exact ⟨M, hM⟩
 refine ⟨⟨riseV_del hg.rise n, Nat.le_trans (delV_le A n) hg.few, fun p hp => hg.nm p (mem_delV.1 hp).1, hm, fun x hx => hg.all x (mem_del.1 hx).1, fun x hx => hk _ (mem_del.1 hx).2 (hg.has x (mem_del.1 hx).1), Nat.le_succ_of_le (Nat.le_trans (List.length_filter_le _ _) hg.lfew), (good_remove hg.grp n).mono (Nat.le_succ _), fun g m h => ?_⟩, ?_, map_names (fun v => delV v n) S⟩
 ·
  have := (in_remove hg.grp n g m).1 h
  exact hk _ this.2 (hg.mem g m this.1)
 ·
  refine ext11 (tell_rise (riseV_del hg.rise n)) (riseV_del (tell_rise hg.rise) n) fun x => ?_
  rw [tell_get (riseV_del hg.rise n), get_del11 hg.rise, get_del11 (tell_rise hg.rise), tell_get hg.rise]
  by_cases e : x = n
  ·
   subst e; rw [if_pos rfl, if_pos rfl]; rfl
  ·
   rw [if_neg e, if_neg e]; unfold tell1; rw [getE_del, if_neg e, of_remove hg.grp, if_neg e]
theorem sh_same (hg : Good11 A L S k) (n h : List UInt8) : dshE (tell11 A L S) n h = shE11 A n h := by unfold dshE shE11; rw [tell_has, tell_dis hg]
theorem sh_one (hg : Good11 A L S k) (n h : List UInt8) : One11 (shA11 A n h) L S (dshL (tell11 A L S) n h) (names10 S) (k + 1) := by
 unfold shA11 dshL
 rw [sh_same hg]
 by_cases e : shE11 A n h = 0
 ·
  rw [if_pos e, if_pos e]
  obtain ⟨h1, h2, h3, h4⟩ := shF_zero e
  refine ⟨hg.put h1 h2 (putV_fewA hg.few h3), ?_, rfl⟩
  obtain ⟨a, ha⟩ := getV_has h3
  rw [tell_put hg.rise]
  unfold setU disA
  rw [tell_get hg.rise, ha]
  rfl
 ·
  rw [if_neg e, if_neg e]
  exact ⟨hg.mono (Nat.le_succ _), rfl, rfl⟩
theorem di_same (hg : Good11 A L S k) (n : List UInt8) (b : Bool) : ddiE (tell11 A L S) n b = diE11 A n b := by unfold ddiE diE11; rw [tell_has, tell_dis hg]
theorem di_one (hg : Good11 A L S k) (n : List UInt8) (b : Bool) : One11 (diA11 A n b) L S (ddiL (tell11 A L S) n b) (names10 S) (k + 1) := by
 unfold diA11 ddiL
 rw [di_same hg]
 by_cases e : diE11 A n b = 0
 ·
  rw [if_pos e, if_pos e]
  obtain ⟨h1, h3, h4⟩ := diF_zero e
  refine ⟨hg.put h1 (hasA_hash hg h3) (putV_fewA hg.few h3), ?_, rfl⟩
  obtain ⟨a, ha⟩ := getV_has h3
  rw [tell_put hg.rise]
  unfold setU hasA
  rw [tell_get hg.rise, ha]
  rfl
 ·
  rw [if_neg e, if_neg e]
  exact ⟨hg.mono (Nat.le_succ _), rfl, rfl⟩
end
end Go.Proofs.YthlgmkfofebbfaaGreatDoor


namespace Go.Proofs.YthlgmkfofebbfaaGreatDoor
open Go.RowKit Go.Maps

section
variable {A : Acc11} {L : Row7} {S : Grs10} {k : Nat}
theorem has_of_get {n a : List UInt8} (h : getE L n = a) (ha : a ≠ []) : (n, a) ∈ L := by
 cases hh : hasE L n with
 | true => have := hasE_mem hh; rwa [h] at this
 | false => rw [getE_none hh] at h; exact absurd h.symm ha
theorem fold_ne {m : List UInt8} (h : mail5 m = true) : fold5 m ≠ [] := fun e => by
 have := mail5_again9 m
 rw [e, h, mail5_nil] at this; cases this
theorem bad_same (hg : Good11 A L S k) (n : List UInt8) {a : List UInt8} (ha : a ≠ []) : badU (tell11 A L S) n a = bad9 L n a := by
 obtain ⟨M, hM⟩ := hg.mir
 rw [Bool.eq_iff_iff]
 unfold badU bad9
 simp only [List.any_eq_true, Bool.and_eq_true, Bool.not_eq_true', beq_eq_false_iff_ne, beq_iff_eq, decide_eq_true_eq]
 constructor
 ·
  rintro ⟨p, hp, ⟨_, h2⟩, h3⟩
  obtain ⟨q, hq, rfl⟩ := List.mem_map.1 hp
  have h4 : (q.1, a) ∈ L := has_of_get h2 ha
  exact ⟨mem_hasO h4, by rw [hM.own h4]; exact h3⟩
 ·
  rintro ⟨h1, h2⟩
  have h3 := hasO_mem h1
  obtain ⟨p, hp, e⟩ := hasV_iff.1 (hg.has _ h3)
  refine ⟨_, List.mem_map.2 ⟨p, hp, rfl⟩, ⟨ha, ?_⟩, ?_⟩
  ·
   show getE L p.1 = a
   rw [e]; exact get_mem hg.lrise h3
  ·
   show ¬ p.1 = n
   rw [e]; exact h2
theorem sm_same (hg : Good11 A L S k) (n m : List UInt8) : dsmE (tell11 A L S) n m = smE11 A L n m := by
 unfold dsmE smE11
 rw [tell_has]
 cases h1 : name5 n with
 | false => rfl
 | true =>
  by_cases hm : m = []
  ·
   subst hm
   have : badU (tell11 A L S) n (foldM11 []) = decide (seE9 L n [] = 9) := by
    have e1 : foldM11 [] = [] := rfl
    rw [e1]
    have e2 : seE9 L n [] = 0 := by unfold seE9; rw [if_pos h1, if_pos rfl]
    rw [e2]
    unfold badU
    rw [List.any_eq_false.2 (fun p _ => by simp)]
    rfl
   rw [this]
  ·
   cases h2 : mail5 m with
   | false =>
    have : isM11 m = false := by unfold isM11; rw [h2, decide_eq_false hm]; rfl
    rw [this]; rfl
   | true =>
    have e1 : foldM11 m = fold5 m := by unfold foldM11; rw [if_pos h2]
    rw [e1, bad_same hg n (fold_ne h2)]
    have : decide (seE9 L n m = 9) = bad9 L n (fold5 m) := by
     unfold seE9
     rw [if_pos h1, if_neg hm, if_pos h2]
     cases bad9 L n (fold5 m) <;> rfl
    rw [this]
theorem smE_zero {n m : List UInt8} (h : smE11 A L n m = 0) : name5 n = true ∧ isM11 m = true ∧ hasV A n = true ∧ seE9 L n m = 0 ∧ (m ≠ [] → bad9 L n (fold5 m) = false ∧ mail5 m = true) := by
 obtain ⟨h1, h2, h3, h4⟩ := smF_zero h
 rw [decide_eq_false_iff_not] at h4
 refine ⟨h1, h2, h3, ?_⟩
 unfold seE9 at h4 ⊢
 rw [if_pos h1] at h4 ⊢
 by_cases hm : m = []
 ·
  rw [if_pos hm]; exact ⟨rfl, fun h => absurd hm h⟩
 ·
  have h5 : mail5 m = true := by unfold isM11 at h2; rw [decide_eq_false hm, Bool.false_or] at h2; exact h2
  rw [if_neg hm, if_pos h5] at h4 ⊢
  cases hb : bad9 L n (fold5 m) with
  | true => rw [hb] at h4; exact absurd rfl h4
  | false => exact ⟨rfl, fun _ => ⟨rfl, h5⟩⟩
theorem sm_one (hg : Good11 A L S k) (n m : List UInt8) : One11 A (smL11 A L n m) S (dsmL (tell11 A L S) n m) (names10 S) (k + 1) := by
 unfold smL11 dsmL
 rw [sm_same hg]
 by_cases e : smE11 A L n m = 0
 case neg => rw [if_neg e, if_neg e]; exact ⟨hg.mono (Nat.le_succ _), rfl, rfl⟩
 rw [if_pos e, if_pos e]
 obtain ⟨h1, h2, h3, h4, h5⟩ := smE_zero e
 unfold seL9
 rw [if_pos h4]
 obtain ⟨M, hM⟩ := hg.mir
 have hd : ∃ M, Mirror9 (delE L n) M := by
  cases hh : hasE L n with
  | true => exact ⟨_, hM.del hh⟩
  | false => rw [del_of_not hh]; exact ⟨M, hM⟩
 by_cases hm : m = []
 ·
  subst hm
  rw [if_pos rfl]
  refine ⟨⟨hg.rise, hg.few, hg.nm, hd, fun x hx => hg.all x (mem_del.1 hx).1, fun x hx => hg.has x (mem_del.1 hx).1, Nat.le_succ_of_le (Nat.le_trans (List.length_filter_le _ _) hg.lfew), hg.grp.mono (Nat.le_succ _), hg.mem⟩, ?_, rfl⟩
  refine tell_one hg.rise (fun x hx => ⟨by rw [getE_del, if_neg hx], rfl⟩) (fun a _ => ?_)
  show tell1 (delE L n) S n a = { tell1 L S n a with ml := [] }
  unfold tell1
  rw [getE_del, if_pos rfl]
 ·
  rw [if_neg hm]
  obtain ⟨h6, h7⟩ := h5 hm
  have hput : ∃ M, Mirror9 (putE L n (fold5 m)) M := by
   obtain ⟨M', hM'⟩ := hd
   rw [← put_del hg.lrise]
   exact ⟨_, hM'.put (hasE_del L n) (free9 hM h6)⟩
  refine ⟨⟨hg.rise, hg.few, hg.nm, hput, fun x hx => ?_, fun x hx => ?_, ?_, hg.grp.mono (Nat.le_succ _), hg.mem⟩, ?_, rfl⟩
  ·
   rcases mem_putE.1 hx with rfl | ⟨hx, _⟩
   ·
    exact May9.of h1 h7
   ·
    exact hg.all x hx
  ·
   rcases mem_putE.1 hx with rfl | ⟨hx, _⟩
   ·
    exact h3
   ·
    exact hg.has x hx
  ·
   rw [put_length hg.lrise]
   have := hg.lfew
   split <;> omega
  ·
   refine tell_one hg.rise (fun x hx => ⟨by rw [getE_put hg.lrise, if_neg hx], rfl⟩) (fun a _ => ?_)
   show tell1 (putE L n (fold5 m)) S n a = { tell1 L S n a with ml := foldM11 m }
   unfold tell1 foldM11
   rw [getE_put hg.lrise, if_pos rfl, if_pos h7]

theorem rn_same (o n : List UInt8) : drnE (tell11 A L S) o n = rnE11 A o n := by unfold drnE rnE11; rw [tell_has, tell_has]
theorem rn_free (hg : Good11 A L S k) {o n : List UInt8} (e : rnE11 A o n = 0) : name5 o = true ∧ name5 n = true ∧ hasV A o = true ∧ hasV A n = false ∧ o ≠ n ∧ reE10 S o n = 0 := by
 obtain ⟨h1, h2, h3, h4⟩ := rnF_zero e
 refine ⟨h1, h2, h3, h4, (fun e => by rw [e, h4] at h3; cases h3), ?_⟩
 unfold reE10
 rw [if_pos h2, if_neg]
 rintro ⟨_, h⟩
 exact h (hg.free h4).2.2
theorem get_re (hg : Good11 A L S k) {o n : List UInt8} (e : rnE11 A o n = 0) (x : List UInt8) : getE (reL9 L o n) x = if x = n then getE L o else if x = o then [] else getE L x := by
 obtain ⟨h1, h2, h3, h4, h5, _⟩ := rn_free hg e
 obtain ⟨f1, f2, _⟩ := hg.free h4
 have hre : reE9 L o n = if hasE L o then 0 else 8 := by unfold reE9; rw [if_pos h2, f1]; rfl
 unfold reL9
 rw [hre]
 cases hh : hasE L o with
 | true =>
  rw [if_pos rfl, if_pos rfl, getE_put (rise_del hg.lrise o), getE_del]
 | false =>
  rw [if_neg (by decide), getE_none hh]
  by_cases e1 : x = n
  ·
   rw [if_pos e1, e1, f2]
  ·
   rw [if_neg e1]
   by_cases e2 : x = o
   ·
    rw [if_pos e2, e2, getE_none hh]
   ·
    rw [if_neg e2]
theorem rn_one (hg : Good11 A L S k) (o n : List UInt8) : One11 (rnA11 A o n) (rnL11 A L o n) (rnS11 A S o n) (drnL (tell11 A L S) o n) (names10 S) (k + 1) := by
 unfold rnA11 rnL11 rnS11 drnL
 rw [rn_same]
 by_cases e : rnE11 A o n = 0
 case neg => rw [if_neg e, if_neg e, if_neg e, if_neg e]; exact ⟨hg.mono (Nat.le_succ _), rfl, rfl⟩
 rw [if_pos e, if_pos e, if_pos e, if_pos e]
 obtain ⟨h1, h2, h3, h4, h5, h6⟩ := rn_free hg e
 obtain ⟨f1, f2, f3⟩ := hg.free h4
 obtain ⟨a, ha⟩ := getV_has h3
 have hA : hasA A o = a.1 := by unfold hasA; rw [ha]
 have hD : disA A o = a.2 := by unfold disA; rw [ha]
 rw [hA, hD, tell_get hg.rise, ha]
 show One11 _ _ _ (putV (delV (tell11 A L S) o) n (tell1 L S o a)) _ _
 have hr1 := riseV_put hg.rise n a
 have hn' : hasV (delV (putV A n a) o) n = true := hasV_del.2 ⟨hasV_put.2 (.inl rfl), Ne.symm h5⟩
 have hk : ∀ x, x ≠ o → hasV A x = true → hasV (delV (putV A n a) o) x = true := fun x hx h => hasV_del.2 ⟨hasV_put.2 (.inr h), hx⟩
 have hre : reE9 L o n = if hasE L o then 0 else 8 := by unfold reE9; rw [if_pos h2, f1]; rfl
 have hlen : (delV (putV A n a) o).length ≤ 12 := by
  have q1 := putV_le A n a
  have q2 := delV_lt (L := putV A n a) (k := o) (hasV_put.2 (.inr h3))
  have := hg.few
  omega
 have hL : (∃ M, Mirror9 (reL9 L o n) M) ∧ (∀ x ∈ reL9 L o n, May9 x) ∧ (∀ x ∈ reL9 L o n, hasV (delV (putV A n a) o) x.1 = true) ∧ (reL9 L o n).length ≤ k + 1 := by
  obtain ⟨M, hM⟩ := hg.mir
  unfold reL9
  rw [hre]
  cases hh : hasE L o with
  | false =>
   rw [if_neg (by decide)]
   refine ⟨⟨M, hM⟩, hg.all, fun x hx => hk _ (fun e => ?_) (hg.has x hx), Nat.le_succ_of_le hg.lfew⟩
   have := mem_hasE (n := x.1) (a := x.2) hx
   rw [e, hh] at this; cases this
  | true =>
   rw [if_pos rfl, if_pos rfl]
   have hm := hasE_mem hh
   have ho : hasO (delE L o) (getE L o) = false := by
    cases hq : hasO (delE L o) (getE L o) with
    | false => rfl
    | true =>
     obtain ⟨q1, q2⟩ := mem_del.1 (hasO_mem hq)
     exact absurd (hM.one q1 hm) q2
   refine ⟨⟨_, (hM.del hh).put (by rw [hasE_del_ne (Ne.symm h5)]; exact f1) ho⟩, fun x hx => ?_, fun x hx => ?_, ?_⟩
   ·
    rcases mem_putE.1 hx with rfl | ⟨hx, _⟩
    ·
     exact ⟨h2, (hg.all _ hm).2⟩
    ·
     exact hg.all x (mem_del.1 hx).1
   ·
    rcases mem_putE.1 hx with rfl | ⟨hx, _⟩
    ·
     exact hn'
    ·
     exact hk _ (mem_del.1 hx).2 (hg.has x (mem_del.1 hx).1)
   ·
    rw [put_length (rise_del hg.lrise o)]
    have q1 : (delE L o).length ≤ L.length := List.length_filter_le _ _
    have := hg.lfew
    split <;> omega
 refine ⟨⟨riseV_del hr1 o, hlen, fun p hp => ?_, hL.1, hL.2.1, hL.2.2.1, hL.2.2.2, (good_rename hg.grp o n).mono (Nat.le_succ _), fun g m h => ?_⟩, ?_, ?_⟩
 ·
  rcases mem_putV.1 (mem_delV.1 hp).1 with rfl | ⟨hp, _⟩
  ·
   exact ⟨h2, (hg.nm (o, a) ((getV_some hg.rise).1 ha)).2⟩
  ·
   exact hg.nm p hp
 ·
  rcases (in_rename hg.grp h6 f3 h5 g m).1 h with ⟨rfl, _⟩ | ⟨_, h2, h3⟩
  ·
   exact hn'
  ·
   exact hk _ h2 (hg.mem g m h3)
 ·
  refine ext11 (tell_rise (riseV_del hr1 o)) (riseV_put (riseV_del (tell_rise hg.rise) o) n _) fun x => ?_
  rw [tell_get (riseV_del hr1 o), get_del11 hr1, get_put11 hg.rise, get_put11 (riseV_del (tell_rise hg.rise) o), get_del11 (tell_rise hg.rise), tell_get hg.rise]
  by_cases e1 : x = n
  ·
   subst e1
   rw [if_neg (Ne.symm h5), if_pos rfl, if_pos rfl]
   show some (tell1 _ _ x a) = _
   unfold tell1
   rw [get_re hg e, if_pos rfl, of_rename hg.grp h6 f3 h5, if_pos rfl]
  ·
   rw [if_neg e1, if_neg e1]
   by_cases e2 : x = o
   ·
    rw [if_pos e2, if_pos e2]; rfl
   ·
    rw [if_neg e2, if_neg e2]
    unfold tell1
    rw [get_re hg e, if_neg e1, if_neg e2, of_rename hg.grp h6 f3 h5, if_neg e1, if_neg e2]
 ·
  unfold reS10
  rw [if_pos h6]
  exact map_names (fun v => ren10 o n v) S

theorem tell_same {S' : Grs10} (h : ∀ n, of10 S' n = of10 S n) : tell11 A L S' = tell11 A L S := by
 unfold tell11 tell1
 exact List.map_congr_left fun p _ => by rw [h]
theorem ma_same (g : List UInt8) : dmaE11 (names10 S) g = maE10 S g := by
 obtain h : hasT (names10 S) g = hasV S g := by rw [Bool.eq_iff_iff, hasT_iff, hasV_names]
 unfold dmaE11 maE10
 rw [h, names10_length]
theorem ma_one (hg : Good11 A L S k) (g : List UInt8) : One11 A L (maS10 S g) (tell11 A L S) (dmaN11 (names10 S) g) (k + 1) := by
 by_cases e : maE10 S g = 0
 case neg =>
  unfold dmaN11 maS10
  rw [ma_same, if_neg e, if_neg e]; exact ⟨hg.mono (Nat.le_succ _), rfl, rfl⟩
 refine ⟨⟨hg.rise, hg.few, hg.nm, hg.mir, hg.all, hg.has, Nat.le_succ_of_le hg.lfew, (good_make hg.grp g).mono (Nat.le_succ _), fun x n h => ?_⟩, tell_same (of_make hg.grp e), ?_⟩
 ·
  rw [in_make hg.grp e] at h; exact hg.mem x n h
 ·
  obtain ⟨M, hM⟩ := rel11 hg.grp.rise
  have := (hM.make hg.grp e).names
  unfold dmaN11
  rw [ma_same, if_pos e, this]
theorem dr_same (g : List UInt8) : ddrE11 (names10 S) g = drE10 S g := by
 obtain h : hasT (names10 S) g = hasV S g := by rw [Bool.eq_iff_iff, hasT_iff, hasV_names]
 unfold ddrE11 drE10 findE10
 rw [h, List.all_nil, Bool.and_true]
theorem dr_one (hg : Good11 A L S k) (g : List UInt8) : One11 A L (drS10 S g) (ddrL11 (tell11 A L S) (names10 S) g) (ddrN11 (names10 S) g) (k + 1) := by
 unfold ddrL11 ddrN11
 rw [dr_same]
 by_cases e : drE10 S g = 0
 case neg =>
  unfold drS10
  rw [if_neg e, if_neg e, if_neg e]; exact ⟨hg.mono (Nat.le_succ _), rfl, rfl⟩
 rw [if_pos e, if_pos e]
 refine ⟨⟨hg.rise, hg.few, hg.nm, hg.mir, hg.all, hg.has, Nat.le_succ_of_le hg.lfew, (good_drop hg.grp g).mono (Nat.le_succ _), fun x n h => hg.mem x n ((in_drop hg.grp e x n).1 h).1⟩, ?_, ?_⟩
 ·
  unfold dropU tell11 tell1
  rw [List.map_map]
  exact List.map_congr_left fun p _ => by rw [of_drop hg.grp e]; rfl
 ·
  obtain ⟨M, hM⟩ := rel11 hg.grp.rise
  exact (hM.drop hg.grp e).names.symm
theorem hasT_of11 (hr : RiseV S) (n g : List UInt8) : hasT (of10 S n) g = in10 S g n := by
 rw [Bool.eq_iff_iff, hasT_iff, of10_mem hr]
theorem jo_same (hg : Good11 A L S k) (g n : List UInt8) : djoE11 (tell11 A L S) (names10 S) g n = joE11 A S g n := by
 obtain h : hasT (names10 S) g = hasV S g := by rw [Bool.eq_iff_iff, hasT_iff, hasV_names]
 unfold djoE11 joE11 ahead11 joE10 findE10 mbF11
 rw [tell_has, h, tell_gs hg, hasT_of11 hg.grp.rise]
 simp only [List.all_cons, List.all_nil, Bool.and_true]
 cases name5 g <;> cases name5 n <;> cases hasV A n <;> cases hasV S g <;> cases in10 S g n <;> rfl
theorem le_same (hg : Good11 A L S k) (g n : List UInt8) : dleE11 (tell11 A L S) (names10 S) g n = leE11 A S g n := by
 obtain h : hasT (names10 S) g = hasV S g := by rw [Bool.eq_iff_iff, hasT_iff, hasV_names]
 unfold dleE11 leE11 ahead11 leE10 findE10 mbF11
 rw [tell_has, h, tell_gs hg, hasT_of11 hg.grp.rise]
 simp only [List.all_cons, List.all_nil, Bool.and_true]
 cases name5 g <;> cases name5 n <;> cases hasV A n <;> cases hasV S g <;> cases in10 S g n <;> rfl
theorem ahead_zero {g n : List UInt8} (h : ahead11 A g n = 0) : name5 g = true ∧ name5 n = true ∧ hasV A n = true := by
 unfold ahead11 at h
 revert h
 cases name5 g <;> cases name5 n <;> cases hasV A n <;> simp
theorem joE_zero {g n : List UInt8} (h : joE11 A S g n = 0) : ahead11 A g n = 0 ∧ joE10 S g n = 0 := by
 unfold joE11 at h
 by_cases e : ahead11 A g n = 0
 ·
  rw [if_pos e] at h; exact ⟨e, h⟩
 ·
  rw [if_neg e] at h; exact absurd h e
theorem leE_zero {g n : List UInt8} (h : leE11 A S g n = 0) : ahead11 A g n = 0 ∧ leE10 S g n = 0 := by
 unfold leE11 at h
 by_cases e : ahead11 A g n = 0
 ·
  rw [if_pos e] at h; exact ⟨e, h⟩
 ·
  rw [if_neg e] at h; exact absurd h e
theorem joS_no {g n : List UInt8} (h : joE11 A S g n ≠ 0) : joS11 A S g n = S := by
 unfold joS11
 by_cases e : ahead11 A g n = 0
 ·
  unfold joE11 at h
  rw [if_pos e] at h ⊢
  exact if_neg h
 ·
  rw [if_neg e]
theorem leS_no {g n : List UInt8} (h : leE11 A S g n ≠ 0) : leS11 A S g n = S := by
 unfold leS11
 by_cases e : ahead11 A g n = 0
 ·
  unfold leE11 at h
  rw [if_pos e] at h ⊢
  exact if_neg h
 ·
  rw [if_neg e]
theorem jo_one (hg : Good11 A L S k) (g n : List UInt8) : One11 A L (joS11 A S g n) (djoL11 (tell11 A L S) (names10 S) g n) (names10 S) (k + 1) := by
 unfold djoL11
 rw [jo_same hg]
 by_cases e : joE11 A S g n = 0
 case neg => rw [joS_no e, if_neg e]; exact ⟨hg.mono (Nat.le_succ _), rfl, rfl⟩
 rw [if_pos e]
 obtain ⟨h1, h2⟩ := joE_zero e
 obtain ⟨_, _, h3⟩ := ahead_zero h1
 unfold joS11
 rw [if_pos h1]
 refine ⟨⟨hg.rise, hg.few, hg.nm, hg.mir, hg.all, hg.has, Nat.le_succ_of_le hg.lfew, good_join hg.grp g n, fun x m h => ?_⟩, ?_, joS10_names g n⟩
 ·
  rcases (in_join hg.grp h2 x m).1 h with h | ⟨_, rfl⟩
  ·
   exact hg.mem x m h
  ·
   exact h3
 ·
  refine tell_one hg.rise (fun x hx => ⟨rfl, by rw [of_join hg.grp h2, if_neg hx]⟩) (fun a _ => ?_)
  unfold tell1
  rw [of_join hg.grp h2, if_pos rfl]
theorem le_one (hg : Good11 A L S k) (g n : List UInt8) : One11 A L (leS11 A S g n) (dleL11 (tell11 A L S) (names10 S) g n) (names10 S) (k + 1) := by
 unfold dleL11
 rw [le_same hg]
 by_cases e : leE11 A S g n = 0
 case neg => rw [leS_no e, if_neg e]; exact ⟨hg.mono (Nat.le_succ _), rfl, rfl⟩
 rw [if_pos e]
 obtain ⟨h1, h2⟩ := leE_zero e
 unfold leS11
 rw [if_pos h1]
 refine ⟨⟨hg.rise, hg.few, hg.nm, hg.mir, hg.all, hg.has, Nat.le_succ_of_le hg.lfew, (good_leave hg.grp g n).mono (Nat.le_succ _), fun x m h => hg.mem x m ((in_leave hg.grp h2 x m).1 h).1⟩, ?_, ?_⟩
 ·
  refine tell_one hg.rise (fun x hx => ⟨rfl, by rw [of_leave hg.grp h2, if_neg hx]⟩) (fun a _ => ?_)
  unfold tell1
  rw [of_leave hg.grp h2, if_pos rfl]
 ·
  unfold leS10
  rw [if_pos h2]
  exact updV_names _ S g
end
end Go.Proofs.YthlgmkfofebbfaaGreatDoor


namespace Go.Proofs.YthlgmkfofebbfaaGreatDoor
open Go.RowKit Go.Maps Go.Shelf

theorem cloned9_calls (p : Option Nat) (L : Row7) (w : World) (h : MapOr9 w p L) : Calls Tryz.prog 137 #[.map p] w fun e w' =>
  ∃ p', e = .returned (.map p') ∧ MapOr9 w' p' L ∧ p'.isSome = p.isSome ∧ (∀ b, p' = some b → w.heap.size ≤ b) ∧ Below w.heap.size w w' := by
 cases p with
 | none => exact (AnyW.maps_Clone_nil Tryz.clone7 w).mono fun e w' ⟨he, hw⟩ => ⟨none, he, ⟨fun _ => h.nil rfl, (fun _ h => nomatch h)⟩, rfl, (fun _ h => nomatch h), by rw [hw]; exact Below.refl _ _⟩
 | some b =>
  refine (AnyW.maps_Clone_owns Tryz.clone7 9 _ b _ _ w (h.map b rfl)).mono fun e w' ⟨he, h1, _, hb⟩ => ⟨_, he, ⟨(fun h => nomatch h), fun b' hb' => ?_⟩, rfl, fun b' hb' => ?_, hb⟩
  ·
   cases hb'; exact h1
  ·
   cases hb'; exact Nat.le_refl _

def New9 (w W : World) (b : Nat) (p q : Option Nat) (L M : Row7) : Prop := Idx9 W b p q L M ∧ w.heap.size ≤ b ∧ (∀ c, p = some c → w.heap.size ≤ c) ∧ (∀ c, q = some c → w.heap.size ≤ c)
theorem New9.later {w W W' : World} {b : Nat} {p q : Option Nat} {L M : Row7} (h : New9 w W b p q L M) (hb : Below W.heap.size W W') : New9 w W' b p q L M := ⟨h.1.later hb, h.2⟩
theorem MapOr9.later {w w' : World} {p : Option Nat} {L : Row7} (h : MapOr9 w p L) (hb : Below w.heap.size w w') : MapOr9 w' p L := h.turns (Turns.of_below hb (fun _ => False)) (fun _ _ f => f)
theorem MapOr9.lt {w : World} {p : Option Nat} {L : Row7} (h : MapOr9 w p L) : ∀ b, p = some b → b < w.heap.size := fun b hb => (h.map b hb).lt

def YCp9 (B : Nat) (p q : Option Nat) : Nat → Value → Prop
 | 2, v => v = .pointer (some ⟨B, 0, none⟩)
 | 3, v => v = .map p
 | 7, v => v = .pointer (some ⟨B, 1, none⟩)
 | 8, v => v = .map q
 | 4, _ => True
 | 9, _ => True
 | 10, _ => True
 | 11, _ => True
 | 12, _ => True
 | _, v => v = .pointer (some ⟨B, 0, none⟩)
def Cl9 (w W : World) (L : Row7) (s : Bool) (p' : Option Nat) : Prop := MapOr9 W p' L ∧ p'.isSome = s ∧ ∀ b, p' = some b → w.heap.size ≤ b
structure Cp9 (w : World) (B : Nat) (p q : Option Nat) (L M : Row7) (D : Nat → Bool) (x : Nat → Value) (W : World) : Prop where
 b : Below w.heap.size w W
 y : ∀ {j : Nat}, D j = true → YCp9 B p q j (x j)
 y4 : D 4 = true → ∃ p', x 4 = .map p' ∧ Cl9 w W L p.isSome p'
 y9 : D 9 = true → ∃ q', x 9 = .map q' ∧ Cl9 w W M q.isSome q'
 ne : D 4 = true → D 9 = true → ∀ p' q', x 4 = .map p' → x 9 = .map q' → ∀ b c, p' = some b → q' = some c → b ≠ c
 y10 : D 10 = true → ∃ p' q', x 10 = .agg #[.map p', .map q'] ∧ Cl9 w W L p.isSome p' ∧ Cl9 w W M q.isSome q' ∧ ∀ b c, p' = some b → q' = some c → b ≠ c
 y11 : D 11 = true → ∃ b p' q', x 11 = .pointer (some ⟨b, 0, none⟩) ∧ New9 w W b p' q' L M
 y12 : D 12 = true → ∃ b p' q', x 12 = .pointer (some ⟨b, 0, none⟩) ∧ New9 w W b p' q' L M
theorem Cl9.later {w W W' : World} {L : Row7} {s : Bool} {p' : Option Nat} (h : Cl9 w W L s p') (hb : Below W.heap.size W W') : Cl9 w W' L s p' := ⟨h.1.later hb, h.2⟩

section
variable {w W W' : World} {B : Nat} {p q : Option Nat} {L M : Row7} {D : Nat → Bool} {x : Nat → Value}
theorem upd_same {x : Nat → Value} {i : Nat} {v : Value} : upd x i v i = v := if_pos rfl
theorem upd_ne {x : Nat → Value} {i j : Nat} {v : Value} (h : j ≠ i) : upd x i v j = x j := if_neg h
theorem updL_ne {D : Nat → Bool} {i j : Nat} (h : j ≠ i) : updL D i j = D j := if_neg h
theorem Cp9.more (h : Cp9 w B p q L M D x W) (i : Nat) (v : Value) (hb : Below W.heap.size W W') (hy : YCp9 B p q i v)
  (h4 : i = 4 → ∃ p', v = .map p' ∧ Cl9 w W' L p.isSome p' ∧ ∀ b, p' = some b → W.heap.size ≤ b) (h9 : i = 9 → ∃ q', v = .map q' ∧ Cl9 w W' M q.isSome q' ∧ ∀ b, q' = some b → W.heap.size ≤ b)
  (h10 : i = 10 → ∃ p' q', v = .agg #[.map p', .map q'] ∧ Cl9 w W' L p.isSome p' ∧ Cl9 w W' M q.isSome q' ∧ ∀ b c, p' = some b → q' = some c → b ≠ c)
  (h11 : i = 11 → ∃ b p' q', v = .pointer (some ⟨b, 0, none⟩) ∧ New9 w W' b p' q' L M) (h12 : i = 12 → ∃ b p' q', v = .pointer (some ⟨b, 0, none⟩) ∧ New9 w W' b p' q' L M) : Cp9 w B p q L M (updL D i) (upd x i v) W' := by
 refine ⟨below_next h.b hb, fun {j} hd => ?_, fun hd => ?_, fun hd => ?_, fun hd4 hd9 p' q' e4 e9 b c eb ec => ?_, fun hd => ?_, fun hd => ?_, fun hd => ?_⟩
 ·
  by_cases e : j = i
  ·
   subst e; rw [upd_same]; exact hy
  ·
   rw [upd_ne e]; rw [updL_ne e] at hd; exact h.y hd
 ·
  by_cases e : 4 = i
  ·
   subst e; rw [upd_same]; obtain ⟨p', e1, e2, _⟩ := h4 rfl; exact ⟨p', e1, e2⟩
  ·
   rw [upd_ne e]; rw [updL_ne e] at hd; obtain ⟨p', e1, e2⟩ := h.y4 hd; exact ⟨p', e1, e2.later hb⟩
 ·
  by_cases e : 9 = i
  ·
   subst e; rw [upd_same]; obtain ⟨p', e1, e2, _⟩ := h9 rfl; exact ⟨p', e1, e2⟩
  ·
   rw [upd_ne e]; rw [updL_ne e] at hd; obtain ⟨p', e1, e2⟩ := h.y9 hd; exact ⟨p', e1, e2.later hb⟩
 ·
  subst eb ec
  by_cases i4 : 4 = i
  ·
   subst i4
   rw [upd_same] at e4
   rw [upd_ne (by decide)] at e9
   rw [updL_ne (by decide)] at hd9
   obtain ⟨p', e1, _, e3⟩ := h4 rfl
   obtain ⟨q', f1, f2⟩ := h.y9 hd9
   rw [e4] at e1; rw [e9] at f1
   injection e1 with e1; injection f1 with f1
   have := e3 b e1.symm
   have := f2.1.lt c f1.symm
   omega
  ·
   by_cases i9 : 9 = i
   ·
    subst i9
    rw [upd_same] at e9
    rw [upd_ne (by decide)] at e4
    rw [updL_ne (by decide)] at hd4
    obtain ⟨q', e1, _, e3⟩ := h9 rfl
    obtain ⟨p', f1, f2⟩ := h.y4 hd4
    rw [e9] at e1; rw [e4] at f1
    injection e1 with e1; injection f1 with f1
    have := e3 c e1.symm
    have := f2.1.lt b f1.symm
    omega
   ·
    rw [upd_ne i4] at e4; rw [upd_ne i9] at e9; rw [updL_ne i4] at hd4; rw [updL_ne i9] at hd9
    exact h.ne hd4 hd9 _ _ e4 e9 b c rfl rfl
 ·
  by_cases e : 10 = i
  ·
   subst e; rw [upd_same]; exact h10 rfl
  ·
   rw [upd_ne e]; rw [updL_ne e] at hd; obtain ⟨p', q', e1, e2, e3, e4⟩ := h.y10 hd; exact ⟨p', q', e1, e2.later hb, e3.later hb, e4⟩
 ·
  by_cases e : 11 = i
  ·
   subst e; rw [upd_same]; exact h11 rfl
  ·
   rw [upd_ne e]; rw [updL_ne e] at hd; obtain ⟨b, p', q', e1, e2⟩ := h.y11 hd; exact ⟨b, p', q', e1, e2.later hb⟩
 ·
  by_cases e : 12 = i
  ·
   subst e; rw [upd_same]; exact h12 rfl
  ·
   rw [upd_ne e]; rw [updL_ne e] at hd; obtain ⟨b, p', q', e1, e2⟩ := h.y12 hd; exact ⟨b, p', q', e1, e2.later hb⟩
theorem Cp9.quiet (h : Cp9 w B p q L M D x W) (i : Nat) {v : Value} (hy : YCp9 B p q i v) (hi : [4, 9, 10, 11, 12].contains i = false := by rfl) : Cp9 w B p q L M (updL D i) (upd x i v) W :=
 h.more i v (Below.refl _ _) hy (fun e => by subst e; cases hi) (fun e => by subst e; cases hi) (fun e => by subst e; cases hi) (fun e => by subst e; cases hi) (fun e => by subst e; cases hi)
theorem Cp9.at4 (h : Cp9 w B p q L M D x W) {p' : Option Nat} (hm : MapOr9 W' p' L) (hs : p'.isSome = p.isSome) (hz : ∀ b, p' = some b → W.heap.size ≤ b) (hb : Below W.heap.size W W') : Cp9 w B p q L M (updL D 4) (upd x 4 (.map p')) W' :=
 h.more 4 _ hb trivial (fun _ => ⟨p', rfl, ⟨hm, hs, fun b e => Nat.le_trans h.b.size (hz b e)⟩, hz⟩) (fun e => absurd e (by decide)) (fun e => absurd e (by decide)) (fun e => absurd e (by decide)) (fun e => absurd e (by decide))
theorem Cp9.at9 (h : Cp9 w B p q L M D x W) {q' : Option Nat} (hm : MapOr9 W' q' M) (hs : q'.isSome = q.isSome) (hz : ∀ b, q' = some b → W.heap.size ≤ b) (hb : Below W.heap.size W W') : Cp9 w B p q L M (updL D 9) (upd x 9 (.map q')) W' :=
 h.more 9 _ hb trivial (fun e => absurd e (by decide)) (fun _ => ⟨q', rfl, ⟨hm, hs, fun b e => Nat.le_trans h.b.size (hz b e)⟩, hz⟩) (fun e => absurd e (by decide)) (fun e => absurd e (by decide)) (fun e => absurd e (by decide))
theorem Cp9.at10 (h : Cp9 w B p q L M D x W) {v : Value} (hv : ∃ p' q', v = .agg #[.map p', .map q'] ∧ Cl9 w W L p.isSome p' ∧ Cl9 w W M q.isSome q' ∧ ∀ b c, p' = some b → q' = some c → b ≠ c) : Cp9 w B p q L M (updL D 10) (upd x 10 v) W :=
 h.more 10 v (Below.refl _ _) trivial (fun e => absurd e (by decide)) (fun e => absurd e (by decide)) (fun _ => hv) (fun e => absurd e (by decide)) (fun e => absurd e (by decide))
theorem Cp9.at11 (h : Cp9 w B p q L M D x W) {p' q' : Option Nat} (hp : Cl9 w W L p.isSome p') (hq : Cl9 w W M q.isSome q') (hne : ∀ b c, p' = some b → q' = some c → b ≠ c) {w1 : World} (hr : Idx9 w1 B p q L M) :
  Cp9 w B p q L M (updL D 11) (upd x 11 (.pointer (some ⟨W.heap.size, 0, none⟩))) (W.alloc (.cells #[.map p', .map q'] 101)) := by
 have hb := below_alloc (Below.refl W.heap.size W) (.cells #[.map p', .map q'] 101)
 refine h.more 11 _ hb trivial (fun e => absurd e (by decide)) (fun e => absurd e (by decide)) (fun e => absurd e (by decide)) (fun _ => ⟨_, p', q', rfl, ⟨(MapKept.heap_alloc W _).1, hp.1.later hb, hq.1.later hb, ?_, hne, hr.mir, hr.few, hr.all⟩, h.b.size, hp.2.2, hq.2.2⟩) (fun e => absurd e (by decide))
 rw [hp.2.1, hq.2.1, hr.both]
theorem Cp9.at12 (h : Cp9 w B p q L M D x W) {v : Value} (hv : ∃ b p' q', v = .pointer (some ⟨b, 0, none⟩) ∧ New9 w W b p' q' L M) : Cp9 w B p q L M (updL D 12) (upd x 12 v) W :=
 h.more 12 v (Below.refl _ _) trivial (fun e => absurd e (by decide)) (fun e => absurd e (by decide)) (fun e => absurd e (by decide)) (fun e => absurd e (by decide)) (fun _ => hv)
theorem Cp9.start (w : World) (x : Nat → Value) : Cp9 w B p q L M (fun _ => false) x w.drew :=
 ⟨below_drew (Below.refl _ _), (fun {_} h => nomatch h), (fun h => nomatch h), (fun h => nomatch h), (fun h _ => nomatch h), (fun h => nomatch h), (fun h => nomatch h), (fun h => nomatch h)⟩
end

def Apart9 (L : Row7) (w : World) (e : Ending) (w' : World) : Prop := ∃ b p q M, e = .returned (.pointer (some ⟨b, 0, none⟩)) ∧ New9 w w' b p q L M ∧ Below w.heap.size w w'

set_option maxRecDepth 100000 in
set_option maxHeartbeats 2000000 in
theorem copy9_calls (B : Nat) (p q : Option Nat) (L M : Row7) (w : World) (h : Idx9 w B p q L M) : Calls Tryz.prog 104 #[.pointer (some ⟨B, 0, none⟩)] w (Apart9 L w) := by
 have HR := Lib.hid h
 clear h
 go_enter Tryz.func104, Tryz.ntmps104
 go_wp2_with fail
 refine wp_region_gen (by kernel_rfl) (Cp9 w B p q L M) ?F ?hF (by kernel_rfl) (by kernel_rfl) (fun x => Cp9.start w x) ?step ?fin
 case hF =>
  intro x
  simp only [List.map_cons, List.map_nil, putL, Act.put, List.setIfInBounds_toArray, List.set_cons_zero, List.set_cons_succ, Nat.zero_add, Nat.reduceAdd]
  exact rfl
 case step =>
  refine ⟨?_, ?_, ?_, ?_, ?_, ?_, ?_, ?_, ?_, ?_, ?_, ?_, ?_, trivial⟩
  ·
   intro D x W hi hd hI K hK
   clear hd
   go_simp
   exact hK _ _ (hI.quiet 0 rfl)
  ·
   intro D x W hi hd hI K hK
   have h0 : x 0 = _ := hI.y (hd 0 rfl)
   clear hd
   simp only [h0] at hK
   go_simp
   exact hK _ _ (hI.quiet 1 rfl)
  ·
   intro D x W hi hd hI K hK
   have h1 : x 1 = _ := hI.y (hd 1 rfl)
   clear hd
   simp only [h1] at hK
   go_simp
   exact hK _ _ (hI.quiet 2 rfl)
  ·
   intro D x W hi hd hI K hK
   have h2 : x 2 = _ := hI.y (hd 2 rfl)
   have c := (HR.out.later hI.b).cell0
   clear hd
   simp only [h2] at hK
   go_simp
   exact hK _ _ (hI.quiet 3 rfl)
  ·
   intro D x W hi hd hI K hK
   have h3 : x 3 = _ := hI.y (hd 3 rfl)
   have hc := cloned9_calls _ _ W (HR.out.later hI.b).mapp
   clear hd
   simp only [h3] at hK
   go_simp
   refine hc.mono ?_
   rintro e W' ⟨p', rfl, hm, hs, hz, hb⟩
   exact hK _ _ (hI.at4 hm hs hz hb)
  ·
   intro D x W hi hd hI K hK
   clear hd
   go_simp
   exact hK _ _ (hI.quiet 5 rfl)
  ·
   intro D x W hi hd hI K hK
   have h5 : x 5 = _ := hI.y (hd 5 rfl)
   clear hd
   simp only [h5] at hK
   go_simp
   exact hK _ _ (hI.quiet 6 rfl)
  ·
   intro D x W hi hd hI K hK
   have h6 : x 6 = _ := hI.y (hd 6 rfl)
   clear hd
   simp only [h6] at hK
   go_simp
   exact hK _ _ (hI.quiet 7 rfl)
  ·
   intro D x W hi hd hI K hK
   have h7 : x 7 = _ := hI.y (hd 7 rfl)
   have c := (HR.out.later hI.b).cell1
   clear hd
   simp only [h7] at hK
   go_simp
   exact hK _ _ (hI.quiet 8 rfl)
  ·
   intro D x W hi hd hI K hK
   have h8 : x 8 = _ := hI.y (hd 8 rfl)
   have hc := cloned9_calls _ _ W (HR.out.later hI.b).mapq
   clear hd
   simp only [h8] at hK
   go_simp
   refine hc.mono ?_
   rintro e W' ⟨p', rfl, hm, hs, hz, hb⟩
   exact hK _ _ (hI.at9 hm hs hz hb)
  ·
   intro D x W hi hd hI K hK
   obtain ⟨p', h4, hp'⟩ := hI.y4 (hd 4 rfl)
   obtain ⟨q', h9, hq'⟩ := hI.y9 (hd 9 rfl)
   have hne := hI.ne (hd 4 rfl) (hd 9 rfl) p' q' h4 h9
   clear hd
   simp only [h4, h9] at hK
   go_simp
   exact hK _ _ (hI.at10 ⟨p', q', rfl, hp', hq', hne⟩)
  ·
   intro D x W hi hd hI K hK
   obtain ⟨p', q', h10, hp', hq', hne⟩ := hI.y10 (hd 10 rfl)
   clear hd
   simp only [h10] at hK
   go_simp
   exact hK _ _ (hI.at11 hp' hq' hne HR.out)
  ·
   intro D x W hi hd hI K hK
   obtain ⟨b, p', q', h11, hz⟩ := hI.y11 (hd 11 rfl)
   clear hd
   simp only [h11] at hK
   go_simp
   exact hK _ _ (hI.at12 ⟨b, p', q', rfl, hz⟩)
 case fin =>
  intro D x W hall hI
  obtain ⟨b, p', q', h12, hz⟩ := hI.y12 (hall 12 (by decide))
  have HZ : Hid (Apart9 L w (.returned (.pointer (some ⟨b, 0, none⟩))) W) := ⟨b, p', q', M, rfl, hz, hI.b⟩
  clear hI hall hz HR
  rw [h12]
  go_wp2
  go_ret
  exact HZ.out
end Go.Proofs.YthlgmkfofebbfaaGreatDoor


namespace Go.Proofs.YthlgmkfofebbfaaGreatDoor
open Go.RowKit Go.Maps

theorem ownsMap_tight10 {H : Type} {w : World} {P : Program} {k : TypeId} {R : Value → Option (DataW H × List MemPlace)} {b n : Nat} {D : DataW H} (h : w.ownsMap P k R b n D) : w.ownsMap P k R b (Maps.size D) D := by
 obtain ⟨es, clock, hb, F, _, rfl⟩ := h
 have e1 : Maps.size (DataW.map ((es.toList.map (WideElems.rg P k R)).foldr DataW.insert [])) = es.size := by simp [Maps.size, length_sorted]
 exact ⟨es, clock, hb, F, by rw [e1]; exact Nat.le_refl _, rfl⟩
theorem keyed10 : Keyed Tryz.prog 9 := string_keyed Tryz.underlying9
theorem key10 (s : ByteArray) (h : s.size ≤ maxLen) : keyOf Tryz.prog 9 (.string s) = some (.string s.data.toList) := WideMaps.keyOf_string_mk Tryz.underlying9 h
theorem zerob10 (w : World) : (zeroValue 4).run Tryz.prog w = .ok (.bool false) w := by kernel_rfl
theorem zeros10 (w : World) : (zeroValue 132).run Tryz.prog w = .ok (.map none) w := by kernel_rfl
def tx10 (l : List UInt8) : ByteArray := ⟨l.toArray⟩
theorem tx10_list (l : List UInt8) : (tx10 l).data.toList = l := by simp [tx10]
theorem tx10_back (s : ByteArray) : tx10 s.data.toList = s := by simp [tx10]
theorem tx10_size (l : List UInt8) : (tx10 l).size = l.length := by rw [← size_list, tx10_list]

/-! ### a set of names -/
def et10 : Unit → DataW Unit := fun _ => .lit (.bool true)
def Set10At (w : World) (b : Nat) (L : Set10) : Prop := w.ownsMap Tryz.prog 9 (plainElem Tryz.prog 4) b L.length (datV et10 L)
theorem Set10At.of {w : World} {b n : Nat} {L : Set10} (h : w.ownsMap Tryz.prog 9 (plainElem Tryz.prog 4) b n (datV et10 L)) : Set10At w b L := by
 have := ownsMap_tight10 h
 rwa [datV_size] at this
theorem Set10At.kept {w w' : World} {b : Nat} {L : Set10} (h : Set10At w b L) (hb : w'.heap[b]? = w.heap[b]?) : Set10At w' b L := by
 obtain ⟨es, clock, h1, r⟩ := h
 exact ⟨es, clock, hb.trans h1, r⟩
theorem plainb_inv10 {v : Value} {z : DataW Unit × List MemPlace} (h : plainElem Tryz.prog 4 v = some z) : ∃ c, v = .bool c ∧ z = (.lit (.bool c), []) := by
 cases v <;> simp [plainElem, Tryz.underlying4] at h
 exact ⟨_, rfl, h.symm⟩
theorem atV_none {V : Type} {e : V → DataW Unit} {L : RowV V} {k : List UInt8} (z : DataW Unit) (h : getV L k = none) : (datV e L).atKey (.string k) z = z := by
 rw [datV_at, h]
theorem atV_some {V : Type} {e : V → DataW Unit} {L : RowV V} {k : List UInt8} {v : V} (z : DataW Unit) (h : getV L k = some v) : (datV e L).atKey (.string k) z = e v := by
 rw [datV_at, h]
theorem at_unit10 (L : Set10) (k : List UInt8) : (datV et10 L).atKey (.string k) (.lit (.bool false)) = .lit (.bool (hasV L k)) := by
 cases h : getV L k with
 | none => rw [atV_none _ h, getV_none.1 h]
 | some v =>
  have : hasV L k = true := by
   cases hh : hasV L k
   ·
    rw [getV_none.2 hh] at h; cases h
   ·
    rfl
  rw [atV_some _ h, this]; rfl
theorem has10 {w : World} {b : Nat} {L : Set10} (h : Set10At w b L) (s : ByteArray) (hs : s.size ≤ maxLen) :
  (Instr.lookup 132 (.map (some b)) (.string s) false).run Tryz.prog w = .ok (.bool (hasV L s.data.toList)) w := by
 obtain ⟨v, ps, hrun, hv⟩ := h.lookup keyed10 Tryz.underlying132 (zerob10 w) (plainElem_bool (H := Unit) Tryz.underlying4 false) (key10 s hs)
 obtain ⟨c, rfl, hc⟩ := plainb_inv10 hv
 rw [hrun]
 have hc' : (datV et10 L).atKey (.string s.data.toList) (.lit (.bool false)) = .lit (.bool c) := congrArg Prod.fst hc
 rw [at_unit10] at hc'
 have : hasV L s.data.toList = c := by simpa using hc'
 rw [this]
theorem drop10 {w : World} {b : Nat} {L : Set10} (h : Set10At w b L) (s : ByteArray) (hs : s.size ≤ maxLen) (ty : TypeId) :
  ∃ w', (Builtin.delete_ #[132, 9] ty #[.map (some b), .string s]).run Tryz.prog w = .ok (.tuple #[]) w' ∧ Set10At w' b (delV L s.data.toList) ∧ w.mapTurned w' b := by
 obtain ⟨w', hrun, hown, ht⟩ := h.drop keyed10 Tryz.underlying132 (key10 s hs) ty
 rw [datV_del] at hown
 exact ⟨w', hrun, Set10At.of hown, ht⟩
theorem add10 {w : World} {b : Nat} {L : Set10} (h : Set10At w b L) (hf : L.length ≤ 1000) (s : ByteArray) (hs : s.size ≤ maxLen) :
  ∃ w', (Instr.mapUpdate 132 (.map (some b)) (.string s) (.bool true)).run Tryz.prog w = .ok () w' ∧ Set10At w' b (putV L s.data.toList ()) ∧ w.mapTurned w' b := by
 obtain ⟨w', hrun, hown, ht⟩ := h.store keyed10 Tryz.underlying132 (Nat.lt_of_le_of_lt hf (by decide)) (key10 s hs) (plainElem_bool (H := Unit) Tryz.underlying4 true)
 have e : datV et10 (putV L s.data.toList ()) = (datV et10 L).put (.string s.data.toList) (et10 ()) := (datV_put et10 L _ ()).symm
 exact ⟨w', hrun, Set10At.of (by rw [e]; exact hown), ht⟩
theorem set10_made (w : World) : Set10At (w.alloc (.map #[] 0)) w.heap.size [] :=
 Set10At.of (n := 0) (World.ownsMap_made (H := Unit) w Tryz.prog 9 (plainElem Tryz.prog 4))

/-! ### groups -/
abbrev Rows10 := RowV (Nat × Set10)
def R10 : Value → Option (DataW Unit × List MemPlace)
 | .map (some b) => some (.lit (.int .i64 b), [])
 | .map none => some (.nil, [])
 | _ => none
def eb10 : Nat × Set10 → DataW Unit := fun p => .lit (.int .i64 p.1)
def plain10 (T : Rows10) : Grs10 := T.map fun p => (p.1, p.2.2)
def blk10 (T : Rows10) (g : List UInt8) : Option Nat := (getV T g).map (·.1)
def ob10 : Option Nat → DataW Unit
 | some b => .lit (.int .i64 b)
 | none => .nil
theorem ob10_inj {o o' : Option Nat} (h : ob10 o = ob10 o') : o = o' := by
 cases o with
 | none => cases o' with
  | none => rfl
  | some b => cases h
 | some a => cases o' with
  | none => cases h
  | some b =>
   unfold ob10 at h
   injection h with h
   injection h with _ h
   rw [Int.ofNat.inj h]
theorem at_blk10 (T : Rows10) (k : List UInt8) : (datV eb10 T).atKey (.string k) .nil = ob10 (blk10 T k) := by
 unfold blk10
 cases h : getV T k with
 | none => rw [atV_none _ h]; rfl
 | some v => rw [atV_some _ h]; rfl
theorem r10_inv {v : Value} {z : DataW Unit × List MemPlace} (h : R10 v = some z) : ∃ o, v = .map o ∧ z.1 = ob10 o := by
 unfold R10 at h
 split at h
 ·
  cases h; exact ⟨_, rfl, rfl⟩
 ·
  cases h; exact ⟨_, rfl, rfl⟩
 ·
  cases h

structure Grp10 (w : World) (B : Nat) (p : Option Nat) (T : Rows10) : Prop where
 blk : w.heap[B]? = some (.cells #[.map p] 104 (0, 0))
 nil : p = none → T = []
 map : ∀ b, p = some b → w.ownsMap Tryz.prog 9 R10 b T.length (datV eb10 T)
 sets : ∀ x ∈ T, Set10At w x.2.1 x.2.2
 one : ∀ x ∈ T, ∀ y ∈ T, x.2.1 = y.2.1 → x.1 = y.1
 off : ∀ x ∈ T, p ≠ some x.2.1
 rise : RiseV T

theorem map_ne_cells10 {w : World} {b B n : Nat} {R : Value → Option (DataW Unit × List MemPlace)} {D : DataW Unit} {c : Array Value} {T : TypeId} {fr : Nat × Nat} (hm : w.ownsMap Tryz.prog 9 R b n D) (hB : w.heap[B]? = some (.cells c T fr)) : b ≠ B := fun e => by
 obtain ⟨es, clock, h1, _⟩ := hm
 subst e
 rw [hB] at h1
 cases h1
section
variable {w w' : World} {B : Nat} {p : Option Nat} {T : Rows10}
theorem Grp10.lt (h : Grp10 w B p T) : B < w.heap.size := (Array.getElem?_eq_some_iff.1 h.blk).1
theorem Grp10.mlt (h : Grp10 w B p T) : ∀ b, p = some b → b < w.heap.size := fun b hb => (h.map b hb).lt
theorem Grp10.slt (h : Grp10 w B p T) : ∀ x ∈ T, x.2.1 < w.heap.size := fun x hx => World.ownsMap.lt (h.sets x hx)
theorem Grp10.cell (h : Grp10 w B p T) : w.cell? ⟨B, 0, none⟩ = some (.map p) := by simp [World.cell?, h.blk]
theorem Grp10.frozen (h : Grp10 w B p T) : w.frozen? ⟨B, 0, none⟩ = false := by simp [World.frozen?, h.blk]
theorem Grp10.mne (h : Grp10 w B p T) : ∀ b, p = some b → b ≠ B := fun b hb => map_ne_cells10 (h.map b hb) h.blk
theorem Grp10.sne (h : Grp10 w B p T) : ∀ x ∈ T, x.2.1 ≠ B := fun x hx => map_ne_cells10 (h.sets x hx) h.blk
theorem Grp10.turns {S : Nat → Prop} (h : Grp10 w B p T) (ht : Turns S w w') (hB : ¬ S B) (hp : ∀ b, p = some b → ¬ S b) (hs : ∀ x ∈ T, ¬ S x.2.1) : Grp10 w' B p T := by
 refine ⟨(ht.block B h.lt hB).trans h.blk, h.nil, fun b hb => ?_, fun x hx => (h.sets x hx).kept (ht.block _ (h.slt x hx) (hs x hx)), h.one, h.off, h.rise⟩
 obtain ⟨es, clock, h1, r⟩ := h.map b hb
 exact ⟨es, clock, (ht.block b (h.mlt b hb) (hp b hb)).trans h1, r⟩
theorem Grp10.later (h : Grp10 w B p T) (hb : Below w.heap.size w w') : Grp10 w' B p T := h.turns (Turns.of_below hb (fun _ => False)) (fun f => f) (fun _ _ f => f) (fun _ _ f => f)

theorem look10 (h : Grp10 w B p T) (s : ByteArray) (hs : s.size ≤ maxLen) :
  (Instr.lookup 102 (.map p) (.string s) true).run Tryz.prog w = .ok (.tuple #[.map (blk10 T s.data.toList), .bool (hasV T s.data.toList)]) w := by
 cases p with
 | none =>
  have hL := h.nil rfl
  subst hL
  exact Maps.look_nil (P := Tryz.prog) (w := w) (t := 102) true keyed10 Tryz.underlying102 (zeros10 w) (key10 s hs)
 | some b =>
  obtain ⟨v, ps, hrun, hv⟩ := (h.map b rfl).look_ok keyed10 Tryz.underlying102 (zeros10 w) (show R10 (.map none) = some (.nil, []) from rfl) (key10 s hs)
  obtain ⟨o, rfl, ho⟩ := r10_inv hv
  rw [hrun, datV_has]
  have ho' : (datV eb10 T).atKey (.string s.data.toList) .nil = ob10 o := ho
  rw [at_blk10] at ho'
  rw [ob10_inj ho']
theorem look101 (h : Grp10 w B p T) (s : ByteArray) (hs : s.size ≤ maxLen) :
  (Instr.lookup 102 (.map p) (.string s) false).run Tryz.prog w = .ok (.map (blk10 T s.data.toList)) w := by
 cases p with
 | none =>
  have hL := h.nil rfl
  subst hL
  exact Maps.look_nil (P := Tryz.prog) (w := w) (t := 102) false keyed10 Tryz.underlying102 (zeros10 w) (key10 s hs)
 | some b =>
  obtain ⟨v, ps, hrun, hv⟩ := (h.map b rfl).lookup keyed10 Tryz.underlying102 (zeros10 w) (show R10 (.map none) = some (.nil, []) from rfl) (key10 s hs)
  obtain ⟨o, rfl, ho⟩ := r10_inv hv
  rw [hrun]
  have ho' : (datV eb10 T).atKey (.string s.data.toList) .nil = ob10 o := ho
  rw [at_blk10] at ho'
  rw [ob10_inj ho']
theorem len10 (h : Grp10 w B p T) (ty : TypeId) : (Builtin.len_ #[102] ty #[.map p]).run Tryz.prog w = .ok (.int .i64 T.length) w := by
 cases p with
 | none =>
  have hL := h.nil rfl
  subst hL
  exact Maps.len_nil Tryz.underlying102 ty
 | some b =>
  have := (h.map b rfl).len (t := 102) Tryz.underlying102 ty
  rwa [datV_size] at this
theorem nilmap10 (w : World) (p : Option Nat) : (binOp .eql 102 (.map p) (.map none)).run Tryz.prog w = .ok (.bool p.isNone) w :=
 run_eql_map_nil_sl w 102 _ _ p Tryz.underlying102
end

theorem plain10_has (T : Rows10) (k : List UInt8) : hasV (plain10 T) k = hasV T k := map_hasV (fun v : Nat × Set10 => v.2) T k
theorem plain10_names (T : Rows10) : names10 (plain10 T) = names10 T := map_names (fun v : Nat × Set10 => v.2) T
theorem plain10_len (T : Rows10) : (plain10 T).length = T.length := List.length_map _
theorem plain10_put (T : Rows10) (k : List UInt8) (v : Nat × Set10) : plain10 (putV T k v) = putV (plain10 T) k v.2 := map_putV (fun v : Nat × Set10 => v.2) T k v
theorem plain10_del (T : Rows10) (k : List UInt8) : plain10 (delV T k) = delV (plain10 T) k := map_delV (fun v : Nat × Set10 => v.2) T k
theorem plain10_upd (f : Set10 → Set10) (T : Rows10) (k : List UInt8) : plain10 (updV (fun v => (v.1, f v.2)) T k) = updV f (plain10 T) k := by
 unfold plain10 updV
 rw [List.map_map, List.map_map]
 refine List.map_congr_left fun x _ => ?_
 show (let y := if x.1 = k then (x.1, (x.2.1, f x.2.2)) else x; (y.1, y.2.2)) = if x.1 = k then (x.1, f x.2.2) else (x.1, x.2.2)
 by_cases e : x.1 = k
 ·
  rw [if_pos e, if_pos e]
 ·
  rw [if_neg e, if_neg e]
theorem plain10_mem {T : Rows10} (hr : RiseV T) {x : List UInt8 × (Nat × Set10)} (hx : x ∈ T) : mem10 (plain10 T) x.1 = x.2.2 := by
 have h1 : RiseV (plain10 T) := riseV_names hr (plain10_names T)
 have h2 : (x.1, x.2.2) ∈ plain10 T := List.mem_map.2 ⟨x, hx, rfl⟩
 exact mem10_at h1 h2
theorem blk10_some {T : Rows10} (hr : RiseV T) {x : List UInt8 × (Nat × Set10)} (hx : x ∈ T) : blk10 T x.1 = some x.2.1 := by
 unfold blk10
 rw [(getV_some hr).2 (show (x.1, x.2) ∈ T from hx)]; rfl
theorem blk10_none {T : Rows10} {k : List UInt8} (h : hasV T k = false) : blk10 T k = none := by
 unfold blk10
 rw [getV_none.2 h]; rfl
theorem updV_mem {V : Type} {f : V → V} {L : RowV V} {k : List UInt8} {p : List UInt8 × V} (h : p ∈ updV f L k) : ∃ q ∈ L, p = (q.1, if q.1 = k then f q.2 else q.2) := by
 obtain ⟨q, hq, rfl⟩ := List.mem_map.1 h
 refine ⟨q, hq, ?_⟩
 by_cases e : q.1 = k
 ·
  rw [if_pos e, if_pos e]
 ·
  rw [if_neg e, if_neg e]
theorem Grp10.turned {w w' : World} {B : Nat} {p : Option Nat} {T : Rows10} (h : Grp10 w B p T) {x : List UInt8 × (Nat × Set10)} (hx : x ∈ T) (f : Set10 → Set10) (hs : Set10At w' x.2.1 (f x.2.2)) (ht : Turns (fun i => i = x.2.1) w w') : Grp10 w' B p (updV (fun v => (v.1, f v.2)) T x.1) := by
 have hbb : ∀ q ∈ T, (if q.1 = x.1 then (q.2.1, f q.2.2) else q.2).1 = q.2.1 := fun q _ => by split <;> rfl
 refine ⟨(ht.block B h.lt (fun e => h.sne x hx e.symm)).trans h.blk, fun e => ?_, fun b hb => ?_, fun y hy => ?_, fun y hy z hz e => ?_, fun y hy => ?_, riseV_upd h.rise _ _⟩
 ·
  rw [h.nil e] at hx; cases hx
 ·
  have e1 : datV eb10 (updV (fun v => (v.1, f v.2)) T x.1) = datV eb10 T := datV_upd (e := eb10) (f := fun v => (v.1, f v.2)) (fun _ => rfl) T x.1
  rw [e1, show (updV (fun v : Nat × Set10 => (v.1, f v.2)) T x.1).length = T.length from List.length_map _]
  obtain ⟨es, clock, h1, r⟩ := h.map b hb
  exact ⟨es, clock, (ht.block b (h.mlt b hb) (fun e => h.off x hx (by rw [hb, e]))).trans h1, r⟩
 ·
  obtain ⟨q, hq, rfl⟩ := updV_mem hy
  by_cases e : q.1 = x.1
  ·
   have := riseV_one h.rise hq hx e
   subst this
   simp only [if_true]
   exact hs
  ·
   simp only [e, if_false]
   exact (h.sets q hq).kept (ht.block _ (h.slt q hq) (fun e' => e (h.one q hq x hx e')))
 ·
  obtain ⟨q, hq, rfl⟩ := updV_mem hy
  obtain ⟨r, hr, rfl⟩ := updV_mem hz
  simp only [hbb q hq, hbb r hr] at e
  exact h.one q hq r hr e
 ·
  obtain ⟨q, hq, rfl⟩ := updV_mem hy
  simp only [hbb q hq]
  exact h.off q hq

def Turn10 (B : Nat) (p : Option Nat) (T : Rows10) (w w' : World) : Prop := Turns (fun i => i = B ∨ p = some i ∨ ∃ x ∈ T, x.2.1 = i) w w'
def Goes10 (w : World) (B : Nat) (p : Option Nat) (T : Rows10) (S' : Grs10) (w' : World) : Prop :=
 ∃ p' T', Grp10 w' B p' T' ∧ plain10 T' = S' ∧ (∀ b, p' = some b → p = some b ∨ w.heap.size ≤ b) ∧ (∀ x ∈ T', (∃ y ∈ T, y.2.1 = x.2.1) ∨ w.heap.size ≤ x.2.1) ∧ Turn10 B p T w w'
theorem Goes10.still {w w' : World} {B : Nat} {p : Option Nat} {T : Rows10} (h : Grp10 w B p T) (hb : Below w.heap.size w w') : Goes10 w B p T (plain10 T) w' :=
 ⟨p, T, h.later hb, rfl, fun _ e => .inl e, fun x hx => .inl ⟨x, hx, rfl⟩, Turns.of_below hb _⟩
theorem Goes10.ahead {w w1 w' : World} {B : Nat} {p : Option Nat} {T : Rows10} {S' : Grs10} (hb : Below w.heap.size w w1) (h : Goes10 w1 B p T S' w') : Goes10 w B p T S' w' := by
 obtain ⟨p', T', hd, hS, hp, hx, ht⟩ := h
 exact ⟨p', T', hd, hS, fun b e => (hp b e).imp id (fun h => Nat.le_trans hb.size h), fun x hh => (hx x hh).imp id (fun h => Nat.le_trans hb.size h), (Turns.of_below hb _).next ht (fun i _ h => h)⟩
theorem Goes10.behind {w w1 w' : World} {B : Nat} {p : Option Nat} {T : Rows10} {S' : Grs10} (h : Goes10 w B p T S' w1) (hb : Below w1.heap.size w1 w') : Goes10 w B p T S' w' := by
 obtain ⟨p', T', hd, hS, hp, hx, ht⟩ := h
 exact ⟨p', T', hd.later hb, hS, hp, hx, Turns.next ht (Turns.of_below hb (fun _ => False)) (fun _ _ f => f.elim)⟩
end Go.Proofs.YthlgmkfofebbfaaGreatDoor


namespace Go.Proofs.YthlgmkfofebbfaaGreatDoor
open Go.RowKit Go.Maps

set_option maxRecDepth 100000 in
theorem areNames1_calls (s : ByteArray) (w : World) (hs : s.size ≤ 9223372036854775807) :
  Calls Tryz.prog 161 #[.string s] w (Tells5 (!name5 s.data.toList) w) := by
 have HN := Lib.hid (Name_calls s w hs)
 cases hb : name5 s.data.toList with
 | false =>
  rw [hb] at HN
  have HN2 : Hid (Calls Tryz.prog 52 #[.string s] w (Errs5 10 w)) := HN.out
  clear HN hb
  go_enter Tryz.func161, Tryz.ntmps161
  go_wp2_with fail
  with_reducible refine HN2.out.mono ?_
  rintro e w1 ⟨rfl, hb⟩
  have HB := Lib.hid hb
  clear hb HN2
  go_wp2
  go_ret
  exact ⟨rfl, HB.out⟩
 | true =>
  rw [hb] at HN
  have HN2 : Hid (Calls Tryz.prog 52 #[.string s] w (Errs5 0 w)) := HN.out
  clear HN hb
  go_enter Tryz.func161, Tryz.ntmps161
  go_wp2_with fail
  with_reducible refine HN2.out.mono ?_
  rintro e w1 ⟨rfl, hb⟩
  have HB := Lib.hid hb
  clear hb HN2
  go_wp2
  go_ret
  exact ⟨rfl, HB.out⟩

set_option maxRecDepth 100000 in
theorem index10_none (fv : Value) (w : World) : Calls Tryz.prog 118 #[.slice none 0 0, fv] w fun e w' => e = .returned (.int .i64 (-1)) ∧ w' = w := by
 go_enter Tryz.func118, Tryz.ntmps118
 go_wp2
 refine wp_loop_rounds 1 ?_
 rw [rounds_succ]
 go_wp2
 go_ret
 exact ⟨rfl, rfl⟩
set_option maxRecDepth 100000 in
theorem index10_one (g : Nat) (B : Nat) (s : ByteArray) (b : Bool) (w : World) (eg : ∀ args w, (callFunc g args).run Tryz.prog w = .ok (.enter g args) w) (hc : w.cell? ⟨B, 0, none⟩ = some (.string s)) (hp : Calls Tryz.prog g #[.string s] w (Tells5 b w)) :
  Calls Tryz.prog 118 #[.slice (some ⟨B, 0, none⟩) 1 1, .func (.func g) #[] #[]] w fun e w' => e = .returned (.int .i64 (if b then 0 else -1)) ∧ Below w.heap.size w w' := by
 have HP := Lib.hid hp
 clear hp
 cases b with
 | true =>
  go_enter Tryz.func118, Tryz.ntmps118
  go_wp2
  refine wp_loop_rounds 1 ?_
  rw [rounds_succ]
  go_wp2_with (go_at_fn g; (with_reducible refine HP.out.mono ?_); rintro e w1 ⟨rfl, hb⟩; have HB := Lib.hid hb; clear hb)
  go_ret
  exact ⟨rfl, HB.out⟩
 | false =>
  go_enter Tryz.func118, Tryz.ntmps118
  go_wp2
  refine wp_loop_rounds 2 ?_
  rw [rounds_succ]
  go_wp2_with (go_at_fn g; (with_reducible refine HP.out.mono ?_); rintro e w1 ⟨rfl, hb⟩; have HB := Lib.hid hb; clear hb)
  rw [rounds_succ]
  go_wp2
  go_ret
  exact ⟨rfl, HB.out⟩
set_option maxRecDepth 100000 in
theorem contains10_none (fv : Value) (w : World) : Calls Tryz.prog 160 #[.slice none 0 0, fv] w fun e w' => e = .returned (.bool false) ∧ w' = w := by
 have HP := Lib.hid (index10_none fv w)
 go_enter Tryz.func160, Tryz.ntmps160
 go_wp2_with fail
 with_reducible refine HP.out.mono ?_
 rintro e w1 ⟨rfl, rfl⟩
 go_wp2
 go_ret
 exact ⟨rfl, rfl⟩
set_option maxRecDepth 100000 in
theorem contains10_one (g : Nat) (B : Nat) (s : ByteArray) (b : Bool) (w : World) (eg : ∀ args w, (callFunc g args).run Tryz.prog w = .ok (.enter g args) w) (hc : w.cell? ⟨B, 0, none⟩ = some (.string s)) (hp : Calls Tryz.prog g #[.string s] w (Tells5 b w)) :
  Calls Tryz.prog 160 #[.slice (some ⟨B, 0, none⟩) 1 1, .func (.func g) #[] #[]] w (Tells5 b w) := by
 have HP := Lib.hid (index10_one g B s b w eg hc hp)
 clear hp hc
 cases b with
 | true =>
  go_enter Tryz.func160, Tryz.ntmps160
  go_wp2_with fail
  with_reducible refine HP.out.mono ?_
  rintro e w1 ⟨rfl, hb⟩
  have HB := Lib.hid hb
  clear hb HP
  go_wp2
  go_ret
  exact ⟨rfl, HB.out⟩
 | false =>
  go_enter Tryz.func160, Tryz.ntmps160
  go_wp2_with fail
  with_reducible refine HP.out.mono ?_
  rintro e w1 ⟨rfl, hb⟩
  have HB := Lib.hid hb
  clear hb HP
  go_wp2
  go_ret
  exact ⟨rfl, HB.out⟩
set_option maxRecDepth 100000 in
theorem areNames_none (w : World) : Calls Tryz.prog 126 #[.slice none 0 0] w fun e w' => e = .returned (.bool true) ∧ w' = w := by
 have HP := Lib.hid (contains10_none (.func (.func 161) #[] #[]) w)
 go_enter Tryz.func126, Tryz.ntmps126
 go_wp2_with fail
 with_reducible refine HP.out.mono ?_
 rintro e w1 ⟨rfl, rfl⟩
 go_wp2
 go_ret
 exact ⟨rfl, rfl⟩
set_option maxRecDepth 100000 in
theorem areNames_one (B : Nat) (s : ByteArray) (w : World) (hs : s.size ≤ 9223372036854775807) (hc : w.cell? ⟨B, 0, none⟩ = some (.string s)) : Calls Tryz.prog 126 #[.slice (some ⟨B, 0, none⟩) 1 1] w (Tells5 (name5 s.data.toList) w) := by
 have HP := Lib.hid (contains10_one _ B s _ w (enters_of Tryz.func161 (by kernel_rfl) rfl) hc (areNames1_calls s w hs))
 clear hc
 generalize name5 s.data.toList = b at *
 cases b with
 | true =>
  go_enter Tryz.func126, Tryz.ntmps126
  go_wp2_with fail
  with_reducible refine HP.out.mono ?_
  rintro e w1 ⟨rfl, hb⟩
  have HB := Lib.hid hb
  clear hb HP
  go_wp2
  go_ret
  exact ⟨rfl, HB.out⟩
 | false =>
  go_enter Tryz.func126, Tryz.ntmps126
  go_wp2_with fail
  with_reducible refine HP.out.mono ?_
  rintro e w1 ⟨rfl, hb⟩
  have HB := Lib.hid hb
  clear hb HP
  go_wp2
  go_ret
  exact ⟨rfl, HB.out⟩

/-! ### has -/
set_option maxRecDepth 100000 in
theorem hasfn_calls (s : ByteArray) (w : World) : Calls Tryz.prog 142 #[.string s] w fun e w' => e = .returned (.func (.func 166) #[] #[.pointer (some ⟨w.heap.size, 0, none⟩)]) ∧ w' = w.alloc (.cells #[.string s] 9) := by
 have hmf := mkf
 go_enter Tryz.func142, Tryz.ntmps142
 go_wp2
 go_ret
 exact ⟨rfl, rfl⟩
set_option maxRecDepth 100000 in
theorem has1_calls (C b : Nat) (L : Set10) (s : ByteArray) (w : World) (hs : s.size ≤ maxLen) (hc : w.cell? ⟨C, 0, none⟩ = some (.string s)) (h : Set10At w b L) : Calls Tryz.prog 166 #[.map (some b), .pointer (some ⟨C, 0, none⟩)] w fun e w' => e = .returned (.bool (hasV L s.data.toList)) ∧ w' = w := by
 have hl := has10 h s hs
 generalize hasV L s.data.toList = r at *
 clear h
 go_enter Tryz.func166, Tryz.ntmps166
 go_wp2
 go_ret
 exact ⟨rfl, rfl⟩

/-! ### every -/
set_option maxRecDepth 100000 in
theorem indexb10_none (fv : Value) (w : World) : Calls Tryz.prog 195 #[.slice none 0 0, fv] w fun e w' => e = .returned (.int .i64 (-1)) ∧ w' = w := by
 go_enter Tryz.func195, Tryz.ntmps195
 go_wp2
 refine wp_loop_rounds 1 ?_
 rw [rounds_succ]
 go_wp2
 go_ret
 exact ⟨rfl, rfl⟩
set_option maxRecDepth 100000 in
theorem containsb10_none (fv : Value) (w : World) : Calls Tryz.prog 173 #[.slice none 0 0, fv] w fun e w' => e = .returned (.bool false) ∧ w' = w := by
 have HP := Lib.hid (indexb10_none fv w)
 go_enter Tryz.func173, Tryz.ntmps173
 go_wp2_with fail
 with_reducible refine HP.out.mono ?_
 rintro e w1 ⟨rfl, rfl⟩
 go_wp2
 go_ret
 exact ⟨rfl, rfl⟩
set_option maxRecDepth 100000 in
theorem everyb_none (c : Bool) (w : World) : Calls Tryz.prog 152 #[.bool c, .slice none 0 0] w (Tells5 true w) := by
 have hmf := mkf
 have HP : Hid (∀ fv W, Calls Tryz.prog 173 #[.slice none 0 0, fv] W fun e w' => e = .returned (.bool false) ∧ w' = W) := containsb10_none
 have HB := Lib.hid (below_alloc (Below.refl w.heap.size w) (.cells #[.bool c] 4))
 go_enter Tryz.func152, Tryz.ntmps152
 go_wp2_with fail
 with_reducible refine (HP.out _ _).mono ?_
 rintro e w1 ⟨rfl, rfl⟩
 go_wp2
 go_ret
 exact ⟨rfl, HB.out⟩
set_option maxRecDepth 100000 in
theorem indexs10_none (fv : Value) (w : World) : Calls Tryz.prog 197 #[.slice none 0 0, fv] w fun e w' => e = .returned (.int .i64 (-1)) ∧ w' = w := by
 go_enter Tryz.func197, Tryz.ntmps197
 go_wp2
 refine wp_loop_rounds 1 ?_
 rw [rounds_succ]
 go_wp2
 go_ret
 exact ⟨rfl, rfl⟩
set_option maxRecDepth 100000 in
theorem indexs10_one (g : Nat) (B C : Nat) (f : Value) (b : Bool) (w : World) (eg : ∀ args w, (callFunc g args).run Tryz.prog w = .ok (.enter g args) w) (hc : w.cell? ⟨B, 0, none⟩ = some f) (hp : Calls Tryz.prog g #[f, .pointer (some ⟨C, 0, none⟩)] w (Tells5 b w)) :
  Calls Tryz.prog 197 #[.slice (some ⟨B, 0, none⟩) 1 1, .func (.func g) #[] #[.pointer (some ⟨C, 0, none⟩)]] w fun e w' => e = .returned (.int .i64 (if b then 0 else -1)) ∧ Below w.heap.size w w' := by
 have HP := Lib.hid hp
 clear hp
 cases b with
 | true =>
  go_enter Tryz.func197, Tryz.ntmps197
  go_wp2
  refine wp_loop_rounds 1 ?_
  rw [rounds_succ]
  go_wp2_with (go_at_fn g; (with_reducible refine HP.out.mono ?_); rintro e w1 ⟨rfl, hb⟩; have HB := Lib.hid hb; clear hb)
  go_ret
  exact ⟨rfl, HB.out⟩
 | false =>
  go_enter Tryz.func197, Tryz.ntmps197
  go_wp2
  refine wp_loop_rounds 2 ?_
  rw [rounds_succ]
  go_wp2_with (go_at_fn g; (with_reducible refine HP.out.mono ?_); rintro e w1 ⟨rfl, hb⟩; have HB := Lib.hid hb; clear hb)
  rw [rounds_succ]
  go_wp2
  go_ret
  exact ⟨rfl, HB.out⟩
set_option maxRecDepth 100000 in
theorem containss10_none (fv : Value) (w : World) : Calls Tryz.prog 180 #[.slice none 0 0, fv] w fun e w' => e = .returned (.bool false) ∧ w' = w := by
 have HP := Lib.hid (indexs10_none fv w)
 go_enter Tryz.func180, Tryz.ntmps180
 go_wp2_with fail
 with_reducible refine HP.out.mono ?_
 rintro e w1 ⟨rfl, rfl⟩
 go_wp2
 go_ret
 exact ⟨rfl, rfl⟩
set_option maxRecDepth 100000 in
theorem containss10_one (g : Nat) (B C : Nat) (f : Value) (b : Bool) (w : World) (eg : ∀ args w, (callFunc g args).run Tryz.prog w = .ok (.enter g args) w) (hc : w.cell? ⟨B, 0, none⟩ = some f) (hp : Calls Tryz.prog g #[f, .pointer (some ⟨C, 0, none⟩)] w (Tells5 b w)) :
  Calls Tryz.prog 180 #[.slice (some ⟨B, 0, none⟩) 1 1, .func (.func g) #[] #[.pointer (some ⟨C, 0, none⟩)]] w (Tells5 b w) := by
 have HP := Lib.hid (indexs10_one g B C f b w eg hc hp)
 clear hp hc
 cases b with
 | true =>
  go_enter Tryz.func180, Tryz.ntmps180
  go_wp2_with fail
  with_reducible refine HP.out.mono ?_
  rintro e w1 ⟨rfl, hb⟩
  have HB := Lib.hid hb
  clear hb HP
  go_wp2
  go_ret
  exact ⟨rfl, HB.out⟩
 | false =>
  go_enter Tryz.func180, Tryz.ntmps180
  go_wp2_with fail
  with_reducible refine HP.out.mono ?_
  rintro e w1 ⟨rfl, hb⟩
  have HB := Lib.hid hb
  clear hb HP
  go_wp2
  go_ret
  exact ⟨rfl, HB.out⟩
set_option maxRecDepth 100000 in
theorem everys_none (p : Option Nat) (w : World) : Calls Tryz.prog 165 #[.map p, .slice none 0 0] w (Tells5 true w) := by
 have hmf := mkf
 have HP : Hid (∀ fv W, Calls Tryz.prog 180 #[.slice none 0 0, fv] W fun e w' => e = .returned (.bool false) ∧ w' = W) := containss10_none
 have HB := Lib.hid (below_alloc (Below.refl w.heap.size w) (.cells #[.map p] 132))
 go_enter Tryz.func165, Tryz.ntmps165
 go_wp2_with fail
 with_reducible refine (HP.out _ _).mono ?_
 rintro e w1 ⟨rfl, rfl⟩
 go_wp2
 go_ret
 exact ⟨rfl, HB.out⟩
set_option maxRecDepth 100000 in
theorem everys1_calls (C D b : Nat) (L : Set10) (s : ByteArray) (w : World) (hs : s.size ≤ maxLen) (hC : w.cell? ⟨C, 0, none⟩ = some (.string s)) (hD : w.cell? ⟨D, 0, none⟩ = some (.map (some b))) (h : Set10At w b L) :
  Calls Tryz.prog 181 #[.func (.func 166) #[] #[.pointer (some ⟨C, 0, none⟩)], .pointer (some ⟨D, 0, none⟩)] w (Tells5 (!hasV L s.data.toList) w) := by
 have eg : ∀ args w, (callFunc 166 args).run Tryz.prog w = .ok (.enter 166 args) w := enters_of Tryz.func166 (by kernel_rfl) rfl
 have HP : Hid (Calls Tryz.prog 166 #[.map (some b), .pointer (some ⟨C, 0, none⟩)] w (Tells5 (hasV L s.data.toList) w)) := (has1_calls C b L s w hs hC h).mono fun e w' ⟨he, hw⟩ => ⟨he, by rw [hw]; exact Below.refl _ _⟩
 clear hC h
 generalize hasV L s.data.toList = r at *
 cases r with
 | true =>
  show Calls _ _ _ _ (Tells5 false w)
  go_enter Tryz.func181, Tryz.ntmps181
  go_wp2_with (go_at_fn 166; (with_reducible refine HP.out.mono ?_); rintro e w1 ⟨rfl, hb⟩; have HB := Lib.hid hb; clear hb)
  go_ret
  exact ⟨rfl, HB.out⟩
 | false =>
  show Calls _ _ _ _ (Tells5 true w)
  go_enter Tryz.func181, Tryz.ntmps181
  go_wp2_with (go_at_fn 166; (with_reducible refine HP.out.mono ?_); rintro e w1 ⟨rfl, hb⟩; have HB := Lib.hid hb; clear hb)
  go_ret
  exact ⟨rfl, HB.out⟩
set_option maxRecDepth 100000 in
theorem everys_one (A C b : Nat) (L : Set10) (s : ByteArray) (w : World) (hs : s.size ≤ maxLen) (hA : w.cell? ⟨A, 0, none⟩ = some (.func (.func 166) #[] #[.pointer (some ⟨C, 0, none⟩)])) (hC : w.cell? ⟨C, 0, none⟩ = some (.string s)) (h : Set10At w b L) :
  Calls Tryz.prog 165 #[.map (some b), .slice (some ⟨A, 0, none⟩) 1 1] w (Tells5 (hasV L s.data.toList) w) := by
 have hmf := mkf
 have hb := below_alloc (Below.refl w.heap.size w) (.cells #[.map (some b)] 132)
 have lA : A < w.heap.size := World.block_lt_of_cell? w _ hA
 have lC : C < w.heap.size := World.block_lt_of_cell? w _ hC
 have cA := (hb.cell (p := ⟨A, 0, none⟩) lA).trans hA
 have cC := (hb.cell (p := ⟨C, 0, none⟩) lC).trans hC
 have cD : (w.alloc (.cells #[.map (some b)] 132)).cell? ⟨w.heap.size, 0, none⟩ = some (.map (some b)) := by rw [World.cell?_alloc_at _ _ _ _ rfl]; rfl
 have HP := Lib.hid (containss10_one _ A w.heap.size _ _ _ (enters_of Tryz.func181 (by kernel_rfl) rfl) cA (everys1_calls C w.heap.size b L s _ hs cC cD (h.kept (hb.block b (World.ownsMap.lt h)))))
 have HB := Lib.hid hb
 clear hb cA cC cD h hA hC lA lC
 generalize hasV L s.data.toList = r at *
 cases r with
 | true =>
  go_enter Tryz.func165, Tryz.ntmps165
  go_wp2_with fail
  with_reducible refine HP.out.mono ?_
  rintro e w1 ⟨rfl, hb1⟩
  have HB1 := Lib.hid (below_next HB.out hb1)
  clear hb1 HP
  go_wp2
  go_ret
  exact ⟨rfl, HB1.out⟩
 | false =>
  go_enter Tryz.func165, Tryz.ntmps165
  go_wp2_with fail
  with_reducible refine HP.out.mono ?_
  rintro e w1 ⟨rfl, hb1⟩
  have HB1 := Lib.hid (below_next HB.out hb1)
  clear hb1 HP
  go_wp2
  go_ret
  exact ⟨rfl, HB1.out⟩
end Go.Proofs.YthlgmkfofebbfaaGreatDoor


namespace Go.Proofs.YthlgmkfofebbfaaGreatDoor
open Go.RowKit Go.Maps

set_option maxRecDepth 100000 in
theorem sclone10_calls (s : ByteArray) (w : World) (hl : s.size ≤ 1000) : Calls Tryz.prog 85 #[.string s] w fun e w' => e = .returned (.string s) ∧ Below w.heap.size w w' := by
 have HC := Lib.hid (Tryz.stringslite_Clone s w (Nat.le_trans hl (by decide)))
 go_enter Tryz.func85, Tryz.ntmps85
 go_wp2_with fail
 with_reducible refine HC.out.mono ?_
 rintro e w1 ⟨rfl, hb⟩
 have HB := Lib.hid hb
 clear hb
 go_wp2
 go_ret
 exact ⟨rfl, HB.out⟩
end Go.Proofs.YthlgmkfofebbfaaGreatDoor


namespace Go.Proofs.YthlgmkfofebbfaaGreatDoor
open Go.RowKit

section
variable {P : Program} {ops : Array Oper} {Q : Exit → Act → World → Prop}

def depsL (ops : Array Oper) (i : Nat) : List Nat := match ops[i]? with
 | some o => (o.after.toList.filter (Region.binds .any)).map (·.on)
 | none => []
def ancL (ops : Array Oper) : Nat → List Nat → List Nat
 | 0, S => S
 | j + 1, S => ancL ops j (if S.contains j then S ++ depsL ops j else S)

theorem deps_true {o : Oper} {i : Nat} {L : Nat → Bool} (ho : ops[i]? = some o) (h : ∀ d, (o.after.toList.any fun e => Region.binds .any e && e.on == d) = true → L d = true) : ∀ a ∈ depsL ops i, L a = true := by
 intro a ha
 unfold depsL at ha
 rw [ho] at ha
 obtain ⟨e, he, rfl⟩ := List.mem_map.1 ha
 obtain ⟨h1, h2⟩ := List.mem_filter.1 he
 exact h _ (List.any_eq_true.2 ⟨e, h1, by simp [h2]⟩)
theorem closed_deps {L : Nat → Bool} (hc : Closed .any ops L) {i : Nat} (hi : L i = true) : ∀ a ∈ depsL ops i, L a = true := by
 cases ho : ops[i]? with
 | none => intro a ha; unfold depsL at ha; rw [ho] at ha; cases ha
 | some o => exact deps_true ho (hc i o ho hi)
theorem anc_true {L : Nat → Bool} (hc : Closed .any ops L) : ∀ (j : Nat) (S : List Nat), (∀ a ∈ S, L a = true) → ∀ a ∈ ancL ops j S, L a = true
 | 0, _, h, a, ha => h a ha
 | j + 1, S, h, a, ha => by
  unfold ancL at ha
  refine anc_true hc j _ ?_ a ha
  intro b hb
  split at hb
  ·
   rename_i hj
   rcases List.mem_append.1 hb with hb | hb
   ·
    exact h b hb
   ·
    exact closed_deps hc (h j (by simpa using hj)) b hb
  ·
   exact h b hb

theorem closed_upd {L : Nat → Bool} (hc : Closed .any ops L) {i : Nat} {o : Oper} (ho : ops[i]? = some o) (hd : ∀ d, (o.after.toList.any fun e => Region.binds .any e && e.on == d) = true → L d = true) : Closed .any ops (updL L i) := by
 intro j oj hoj hLj d hdd
 unfold updL at hLj ⊢
 by_cases e : d = i
 ·
  rw [if_pos e]
 ·
  rw [if_neg e]
  by_cases ej : j = i
  ·
   subst ej
   rw [ho] at hoj
   injection hoj with hoj
   subst hoj
   exact hd d hdd
  ·
   rw [if_neg ej] at hLj
   exact hc j oj hoj hLj d hdd

theorem allO_at {φ : Nat → Oper → Prop} : ∀ {l : List Oper} {k : Nat}, (∀ i o, l[i]? = some o → φ (k + i) o) → AllO φ l k
 | [], _, _ => trivial
 | x :: r, k, h => ⟨h 0 x rfl, allO_at fun i o ho => by
  have := h (i + 1) o (by simpa using ho)
  rwa [show k + (i + 1) = k + 1 + i by omega] at this⟩
theorem allO_of {φ : Nat → Oper → Prop} {l : List Oper} (h : ∀ i o, l[i]? = some o → φ i o) : AllO φ l 0 := allO_at fun i o ho => by
 rw [Nat.zero_add]; exact h i o ho

theorem wp_region_last {id : Nat} {w : World} {a : Act} (hm : P.follows .mixedOrders = true) (last : Nat) (R D : World → Prop) (Y : Nat → Value → World → Prop) (Z : Value → Prop) (F : (Nat → Value) → Act) (hF : ∀ x, putL (ops.toList.map (·.dst)) x 0 a = F x)
  (hap : apartL (ops.toList.map (·.dst)) = true) (hback : (ops.toList.zipIdx.all fun p => p.1.after.all fun e => !(Region.binds .any e) || decide (e.on < p.2)) = true)
  (hanc : ((List.range last).all fun i => (ancL ops last (depsL ops last)).contains i) = true) (hbeh : ((List.range ops.size).all fun j => decide (j ≤ last) || (ancL ops j (depsL ops j)).contains last) = true) (hlt : last < ops.size) (hR : R w.drew)
  (step : AllO (fun i o => ∀ (x : Nat → Value) (w : World),
   (i < last → R w → (∀ j, (o.after.toList.any fun e => Region.binds .any e && e.on == j) = true → Y j (x j) w) →
    ∀ K : Act → World → Prop, (∀ v w', Y i v w' → R w' → (∀ j u, Y j u w → Y j u w') → K ((F x).put o.dst v) w') →
     if Region.wanted o (yielded ops (F x).tmps) = true then Oper.wp P o (F x) w K Q else K ((F x).put o.dst undef) w) ∧
   (i = last → R w → (∀ j, (o.after.toList.any fun e => Region.binds .any e && e.on == j) = true → Y j (x j) w) →
    ∀ K : Act → World → Prop, (∀ v w', Z v → D w' → K ((F x).put o.dst v) w') →
     if Region.wanted o (yielded ops (F x).tmps) = true then Oper.wp P o (F x) w K Q else K ((F x).put o.dst undef) w) ∧
   (last < i → D w → (∀ j, (o.after.toList.any fun e => Region.binds .any e && e.on == j) = true → last ≤ j → Z (x j)) →
    ∀ K : Act → World → Prop, (∀ v, Z v → K ((F x).put o.dst v) w) →
     if Region.wanted o (yielded ops (F x).tmps) = true then Oper.wp P o (F x) w K Q else K ((F x).put o.dst undef) w)) ops.toList 0)
  (fin : ∀ (x : Nat → Value) (w : World), D w → (∀ j, last ≤ j → j < ops.size → Z (x j)) → Q .normal (F x) w) : (Code.region id ops true).wp P Q a w := by
 refine wp_region_gen hm (fun L x W => Closed .any ops L ∧ (∀ j, L j = true → j < ops.size) ∧ ((L last = false ∧ R W ∧ ∀ j, L j = true → Y j (x j) W) ∨ (L last = true ∧ D W ∧ ∀ j, L j = true → last ≤ j → Z (x j)))) F hF hap hback
  (fun _ => ⟨(fun _ _ _ h => nomatch h), (fun _ h => nomatch h), .inl ⟨rfl, hR, (fun _ h => nomatch h)⟩⟩) ?_ ?_
 ·
  have hat := fun i o h => step.at_ i o h
  have gen : ∀ (i : Nat) (o : Oper), ops.toList[i]? = some o → ∀ (L : Nat → Bool) (x : Nat → Value) (w : World), L i = false → (∀ d, (o.after.toList.any fun e => Region.binds .any e && e.on == d) = true → L d = true) →
    (Closed .any ops L ∧ (∀ j, L j = true → j < ops.size) ∧ ((L last = false ∧ R w ∧ ∀ j, L j = true → Y j (x j) w) ∨ (L last = true ∧ D w ∧ ∀ j, L j = true → last ≤ j → Z (x j)))) →
    ∀ K : Act → World → Prop, (∀ v w', (Closed .any ops (updL L i) ∧ (∀ j, updL L i j = true → j < ops.size) ∧ ((updL L i last = false ∧ R w' ∧ ∀ j, updL L i j = true → Y j (upd x i v j) w') ∨ (updL L i last = true ∧ D w' ∧ ∀ j, updL L i j = true → last ≤ j → Z (upd x i v j)))) → K ((F x).put o.dst v) w') →
     if Region.wanted o (yielded ops (F x).tmps) = true then Oper.wp P o (F x) w K Q else K ((F x).put o.dst undef) w := by
   intro i o ho L x w hLi hd hI K hK
   have ho' : ops[i]? = some o := by simpa using ho
   have hisz : i < ops.size := (Array.getElem?_eq_some_iff.1 ho').1
   obtain ⟨hcl, hsz, hI⟩ := hI
   have hcu := closed_upd hcl ho' hd
   have hsu : ∀ j, updL L i j = true → j < ops.size := by
    intro j hj
    unfold updL at hj
    by_cases e : j = i
    ·
     rw [e]; exact hisz
    ·
     rw [if_neg e] at hj; exact hsz j hj
   obtain ⟨s1, s2, s3⟩ := hat i o ho x w
   rw [Nat.zero_add] at s1 s2 s3
   have hbl : ∀ j, last < j → j < ops.size → last ∈ ancL ops j (depsL ops j) := by
    intro j h1 h2
    have := List.all_eq_true.1 hbeh j (List.mem_range.2 h2)
    rw [decide_eq_false (by omega), Bool.false_or] at this
    simpa using this
   rcases hI with ⟨h0, hRw, hY⟩ | ⟨h1, hDw, hZ⟩
   ·
    rcases Nat.lt_trichotomy i last with hil | rfl | hil
    ·
     refine s1 hil hRw (fun j hj => hY j (hd j hj)) K fun v w' hy hr hk => hK v w' ⟨hcu, hsu, .inl ⟨?_, hr, ?_⟩⟩
     ·
      rw [show updL L i last = L last from if_neg (by omega)]; exact h0
     ·
      intro j hj
      by_cases e : j = i
      ·
       subst e; rw [show upd x j v j = v from if_pos rfl]; exact hy
      ·
       rw [show upd x i v j = x j from if_neg e]
       rw [show updL L i j = L j from if_neg e] at hj
       exact hk j _ (hY j hj)
    ·
     refine s2 rfl hRw (fun j hj => hY j (hd j hj)) K fun v w' hz hdw => hK v w' ⟨hcu, hsu, .inr ⟨if_pos rfl, hdw, ?_⟩⟩
     intro j hj hle
     by_cases e : j = i
     ·
      subst e; rw [show upd x j v j = v from if_pos rfl]; exact hz
     ·
      rw [show updL L i j = L j from if_neg e] at hj
      have := anc_true hcl j _ (closed_deps hcl hj) i (hbl j (by omega) (hsz j hj))
      rw [hLi] at this
      cases this
    ·
     exfalso
     have := anc_true hcl i _ (deps_true ho' hd) last (hbl i hil hisz)
     rw [h0] at this
     cases this
   ·
    rcases Nat.lt_trichotomy i last with hil | rfl | hil
    ·
     exfalso
     have h2 := List.all_eq_true.1 hanc i (List.mem_range.2 hil)
     have := anc_true hcl last _ (closed_deps hcl h1) i (by simpa using h2)
     rw [hLi] at this
     cases this
    ·
     rw [hLi] at h1; cases h1
    ·
     refine s3 hil hDw (fun j hj hle => hZ j (hd j hj) hle) K fun v hz => hK v w ⟨hcu, hsu, .inr ⟨?_, hDw, ?_⟩⟩
     ·
      rw [show updL L i last = L last from if_neg (by omega)]; exact h1
     ·
      intro j hj hle
      by_cases e : j = i
      ·
       subst e; rw [show upd x j v j = v from if_pos rfl]; exact hz
      ·
       rw [show upd x i v j = x j from if_neg e]
       rw [show updL L i j = L j from if_neg e] at hj
       exact hZ j hj hle
  exact allO_of gen
 ·
  intro L x w hall ⟨_, _, hI⟩
  rcases hI with ⟨h0, _⟩ | ⟨_, hDw, hZ⟩
  ·
   rw [hall last hlt] at h0; cases h0
  ·
   exact fin x w hDw (fun j h1 h2 => hZ j (hall j h2) h1)
end
end Go.Proofs.YthlgmkfofebbfaaGreatDoor


namespace Go.Proofs.YthlgmkfofebbfaaGreatDoor
open Go.RowKit Go.Maps

set_option maxRecDepth 100000 in
theorem setadd10_calls (b : Nat) (L : Set10) (s : ByteArray) (w : World) (h : Set10At w b L) (hf : L.length ≤ 1000) (hs : s.size ≤ 1000) :
  Calls Tryz.prog 134 #[.map (some b), .string s] w fun e w' => e = .returned (.tuple #[]) ∧ Set10At w' b (putV L s.data.toList ()) ∧ Turns (fun i => i = b) w w' := by
 have HC := Lib.hid (sclone10_calls s w hs)
 have HA : Hid (∀ W, Below w.heap.size w W → ∃ w', (Instr.mapUpdate 132 (.map (some b)) (.string s) (.bool true)).run Tryz.prog W = .ok () w' ∧ Set10At w' b (putV L s.data.toList ()) ∧ Turns (fun i => i = b) w w') := fun W hb => by
  obtain ⟨w', h1, h2, h3⟩ := add10 (h.kept (hb.block b (World.ownsMap.lt h))) hf s (Nat.le_trans hs (by decide))
  exact ⟨w', h1, h2, (Turns.of_below hb _).grown h3.grown (fun k hk _ => by cases hk; rfl)⟩
 clear h
 go_enter Tryz.func134, Tryz.ntmps134
 go_wp2_with fail
 with_reducible refine HC.out.mono ?_
 rintro e w1 ⟨rfl, hb⟩
 obtain ⟨w2, hrun, h2, h3⟩ := HA.out w1 hb
 have H2 := Lib.hid h2
 have H3 := Lib.hid h3
 clear hb h2 h3 HA HC
 go_wp2
 go_end0
 exact ⟨rfl, H2.out, H3.out⟩

set_option maxRecDepth 100000 in
theorem new10_calls (w : World) : Calls Tryz.prog 31 #[] w fun e w' => e = .returned (.pointer (some ⟨w.heap.size, 0, none⟩)) ∧ w' = w.alloc (.cells #[.map none] 104) := by
 go_enter Tryz.func31, Tryz.ntmps31
 go_wp2
 go_ret
 exact ⟨rfl, rfl⟩
theorem grp10_new (w : World) : Grp10 (w.alloc (.cells #[.map none] 104)) w.heap.size none [] :=
 ⟨(MapKept.heap_alloc w _).1, (fun _ => rfl), (fun _ h => nomatch h), (fun _ h => nomatch h), (fun _ h => nomatch h), (fun _ h => nomatch h), List.Pairwise.nil⟩

def PutTo10 (w : World) (B : Nat) (p : Option Nat) (T' : Rows10) (w' : World) : Prop :=
 ∃ p', Grp10 w' B p' T' ∧ (∀ c, p' = some c → p = some c ∨ w.heap.size ≤ c) ∧ Turns (fun i => i = B ∨ p = some i) w w'
theorem grp10_stored {w w' : World} {B m b : Nat} {T : Rows10} {l : Set10} {k : List UInt8} {n : Nat} (h : Grp10 w B (some m) T) (hs : Set10At w b l) (hn : ∀ x ∈ T, x.2.1 ≠ b) (hm : m ≠ b) (ht : w.mapTurned w' m)
  (hown : w'.ownsMap Tryz.prog 9 R10 m n (datV eb10 (putV T k (b, l)))) : Grp10 w' B (some m) (putV T k (b, l)) := by
 have htn : Turns (fun i => i = m) w w' := (Turns.refl _ w).grown ht.grown (fun k hk _ => by cases hk; rfl)
 refine ⟨(htn.block B h.lt (fun e => h.mne m rfl e.symm)).trans h.blk, (fun e => nomatch e), fun c hc => ?_, fun x hx => ?_, fun x hx y hy e => ?_, fun x hx => ?_, riseV_put h.rise _ _⟩
 ·
  cases hc
  have := ownsMap_tight10 hown
  rwa [datV_size] at this
 ·
  rcases mem_putV.1 hx with rfl | ⟨hx, _⟩
  ·
   exact hs.kept (htn.block b (World.ownsMap.lt hs) (fun e => hm e.symm))
  ·
   exact (h.sets x hx).kept (htn.block _ (h.slt x hx) (fun e => h.off x hx (by rw [e])))
 ·
  rcases mem_putV.1 hx with rfl | ⟨hx, _⟩ <;> rcases mem_putV.1 hy with rfl | ⟨hy, _⟩
  ·
   rfl
  ·
   exact absurd e.symm (hn y hy)
  ·
   exact absurd e (hn x hx)
  ·
   exact h.one x hx y hy e
 ·
  rcases mem_putV.1 hx with rfl | ⟨hx, _⟩
  ·
   intro e; injection e with e; exact hm e
  ·
   exact h.off x hx
theorem grp10_store {w : World} {B m b : Nat} {T : Rows10} {l : Set10} (h : Grp10 w B (some m) T) (hs : Set10At w b l) (hn : ∀ x ∈ T, x.2.1 ≠ b) (hm : m ≠ b) (hf : T.length ≤ 1000) (g : ByteArray) (hg : g.size ≤ maxLen) :
  ∃ w', (Instr.mapUpdate 102 (.map (some m)) (.string g) (.map (some b))).run Tryz.prog w = .ok () w' ∧ Grp10 w' B (some m) (putV T g.data.toList (b, l)) ∧ Turns (fun i => i = m) w w' := by
 obtain ⟨w', hrun, hown, ht⟩ := (h.map m rfl).store keyed10 Tryz.underlying102 (Nat.lt_of_le_of_lt hf (by decide)) (key10 g hg) (show R10 (.map (some b)) = some (.lit (.int .i64 b), []) from rfl)
 have e : datV eb10 (putV T g.data.toList (b, l)) = (datV eb10 T).put (.string g.data.toList) (.lit (.int .i64 b)) := (datV_put eb10 T _ (b, l)).symm
 exact ⟨w', hrun, grp10_stored h hs hn hm ht (by rw [e]; exact hown), (Turns.refl _ w).grown ht.grown (fun k hk _ => by cases hk; rfl)⟩

def YP10 (B m b : Nat) (g : ByteArray) : Nat → Value → Prop
 | 3, v => v = .map (some m)
 | 4, v => v = .string g
 | 5, v => v = .string g
 | 6, v => v = .map (some b)
 | _, v => v = .pointer (some ⟨B, 0, none⟩)
def YPut10 (B m b : Nat) (g : ByteArray) (j : Nat) (v : Value) (_ : World) : Prop := YP10 B m b g j v

set_option maxRecDepth 100000 in
set_option maxHeartbeats 1000000 in
theorem put10_some (B m b : Nat) (T : Rows10) (l : Set10) (g : ByteArray) (w : World) (h : Grp10 w B (some m) T) (hs : Set10At w b l) (hn : ∀ x ∈ T, x.2.1 ≠ b) (hm : m ≠ b) (hf : T.length ≤ 1000) (hg : g.size ≤ 1000) :
  Calls Tryz.prog 127 #[.pointer (some ⟨B, 0, none⟩), .string g, .map (some b)] w fun e w' => e = .returned (.tuple #[]) ∧ PutTo10 w B (some m) (putV T g.data.toList (b, l)) w' := by
 have HC : Hid (∀ W, Calls Tryz.prog 85 #[.string g] W fun e w' => e = .returned (.string g) ∧ Below W.heap.size W w') := fun W => sclone10_calls g W hg
 have hq := nilmap10 w (some m)
 have hc := h.cell
 have HG1 := Lib.hid h
 have HST : Hid (∀ W, Below w.heap.size w W → ∃ w', (Instr.mapUpdate 102 (.map (some m)) (.string g) (.map (some b))).run Tryz.prog W = .ok () w' ∧ PutTo10 w B (some m) (putV T g.data.toList (b, l)) w') := fun W hb => by
  obtain ⟨w', h1, h2, h3⟩ := grp10_store (h.later hb) (hs.kept (hb.block b (World.ownsMap.lt hs))) hn hm hf g (Nat.le_trans hg (by decide))
  exact ⟨w', h1, some m, h2, (fun _ e => .inl e), (Turns.of_below hb _).next h3 (fun i _ e => .inr (by rw [e]))⟩
 clear h hs hn hm hf
 go_enter Tryz.func127, Tryz.ntmps127
 go_wp2_with fail

 refine wp_region_last (by kernel_rfl) 7 (fun W => Below w.heap.size w W) (fun W => PutTo10 w B (some m) (putV T g.data.toList (b, l)) W) (YPut10 B m b g) (fun _ => True) ?F ?hF (by kernel_rfl) (by kernel_rfl) (by kernel_rfl) (by kernel_rfl) (by decide) (below_drew (Below.refl _ _)) ?step ?fin
 case hF =>
  intro x
  simp only [List.map_cons, List.map_nil, putL, Act.put, List.setIfInBounds_toArray, List.set_cons_zero, List.set_cons_succ, Nat.zero_add, Nat.reduceAdd]
  exact rfl
 case step =>
  refine ⟨?_, ?_, ?_, ?_, ?_, ?_, ?_, ?_, trivial⟩
  ·
   intro x W
   refine ⟨fun _ hW hdep K hK => ?_, (fun h => absurd h (by decide)), (fun h => absurd h (by decide))⟩
   clear hdep
   go_simp
   exact hK _ _ rfl hW (fun _ _ h => h)
  ·
   intro x W
   refine ⟨fun _ hW hdep K hK => ?_, (fun h => absurd h (by decide)), (fun h => absurd h (by decide))⟩
   have h0 : x 0 = _ := hdep 0 rfl
   clear hdep
   simp only [h0] at hK
   go_simp
   exact hK _ _ rfl hW (fun _ _ h => h)
  ·
   intro x W
   refine ⟨fun _ hW hdep K hK => ?_, (fun h => absurd h (by decide)), (fun h => absurd h (by decide))⟩
   have h1 : x 1 = _ := hdep 1 rfl
   clear hdep
   simp only [h1] at hK
   go_simp
   exact hK _ _ rfl hW (fun _ _ h => h)
  ·
   intro x W
   refine ⟨fun _ hW hdep K hK => ?_, (fun h => absurd h (by decide)), (fun h => absurd h (by decide))⟩
   have h2 : x 2 = _ := hdep 2 rfl
   have c := (HG1.out.later hW).cell
   clear hdep
   simp only [h2] at hK
   go_simp
   exact hK _ _ rfl hW (fun _ _ h => h)
  ·
   intro x W
   refine ⟨fun _ hW hdep K hK => ?_, (fun h => absurd h (by decide)), (fun h => absurd h (by decide))⟩
   clear hdep
   go_simp
   exact hK _ _ rfl hW (fun _ _ h => h)
  ·
   intro x W
   refine ⟨fun _ hW hdep K hK => ?_, (fun h => absurd h (by decide)), (fun h => absurd h (by decide))⟩
   have h4 : x 4 = _ := hdep 4 rfl
   have hc := HC.out W
   clear hdep
   simp only [h4] at hK
   go_simp
   refine hc.mono ?_
   rintro e W' ⟨rfl, hb⟩
   exact hK _ _ rfl (below_next hW hb) (fun _ _ h => h)
  ·
   intro x W
   refine ⟨fun _ hW hdep K hK => ?_, (fun h => absurd h (by decide)), (fun h => absurd h (by decide))⟩
   clear hdep
   go_simp
   exact hK _ _ rfl hW (fun _ _ h => h)
  ·
   intro x W
   refine ⟨(fun h => absurd h (by decide)), fun _ hW hdep K hK => ?_, (fun h => absurd h (by decide))⟩
   have h3 : x 3 = _ := hdep 3 rfl
   have h5 : x 5 = _ := hdep 5 rfl
   have h6 : x 6 = _ := hdep 6 rfl
   obtain ⟨w', hrun, hg⟩ := HST.out W hW
   clear hdep
   simp only [h3, h5, h6] at hK
   go_simp
   exact hK undef _ trivial hg
 case fin =>
  intro x W hW _
  have HF := Lib.hid hW
  clear hW HG1 HST HC
  go_end0
  exact ⟨rfl, HF.out⟩

set_option maxRecDepth 100000 in
set_option maxHeartbeats 1000000 in
theorem put10_none (B b : Nat) (l : Set10) (g : ByteArray) (w : World) (h : Grp10 w B none []) (hs : Set10At w b l) (hg : g.size ≤ 1000) :
  Calls Tryz.prog 127 #[.pointer (some ⟨B, 0, none⟩), .string g, .map (some b)] w fun e w' => e = .returned (.tuple #[]) ∧ PutTo10 w B none (putV [] g.data.toList (b, l)) w' := by
 have HC : Hid (∀ W, Calls Tryz.prog 85 #[.string g] W fun e w' => e = .returned (.string g) ∧ Below W.heap.size W w') := fun W => sclone10_calls g W hg
 have hq := nilmap10 w none
 have hc := h.cell
 have hf0 := h.frozen
 have hBl := h.lt
 have hmm := @run_makeMap Tryz.prog
 have hbl : b < w.heap.size := World.ownsMap.lt hs
 have hbB : b ≠ B := map_ne_cells10 hs h.blk
 have hsz : (w.setCell ⟨B, 0, none⟩ (.map (some w.heap.size))).heap.size = w.heap.size := by simp [World.setCell]
 have hblk1 := heap_setCell_box_a (.map (some w.heap.size)) h.blk
 have hblk2 : ((w.setCell ⟨B, 0, none⟩ (.map (some w.heap.size))).alloc (.map #[] 0)).heap[B]? = some (.cells #[.map (some w.heap.size)] 104 (0, 0)) := (Below.heap_alloc _ _ B (by omega)).trans hblk1
 have hown := World.ownsMap_made (H := Unit) (w.setCell ⟨B, 0, none⟩ (.map (some w.heap.size))) Tryz.prog 9 R10
 rw [hsz] at hown
 have ht1 : Turns (fun i => i = B ∨ (none : Option Nat) = some i) w ((w.setCell ⟨B, 0, none⟩ (.map (some w.heap.size))).alloc (.map #[] 0)) := ((Turns.refl _ w).setCell (p := ⟨B, 0, none⟩) (fun _ => .inl rfl) _).alloc _
 have hG : Grp10 ((w.setCell ⟨B, 0, none⟩ (.map (some w.heap.size))).alloc (.map #[] 0)) B (some w.heap.size) [] := by
  refine ⟨hblk2, (fun e => nomatch e), fun c hc => ?_, (fun _ h => nomatch h), (fun _ h => nomatch h), (fun _ h => nomatch h), List.Pairwise.nil⟩
  cases hc
  exact hown
 have hs1 : Set10At ((w.setCell ⟨B, 0, none⟩ (.map (some w.heap.size))).alloc (.map #[] 0)) b l := hs.kept (ht1.block b hbl (by rintro (e | e); exact hbB e; cases e))
 have HG1 := Lib.hid hG
 have HST : Hid (∀ W, Below ((w.setCell ⟨B, 0, none⟩ (.map (some w.heap.size))).alloc (.map #[] 0)).heap.size ((w.setCell ⟨B, 0, none⟩ (.map (some w.heap.size))).alloc (.map #[] 0)) W → ∃ w', (Instr.mapUpdate 102 (.map (some w.heap.size)) (.string g) (.map (some b))).run Tryz.prog W = .ok () w' ∧ PutTo10 w B none (putV [] g.data.toList (b, l)) w') := fun W hb => by
  obtain ⟨w', h1, h2, h3⟩ := grp10_store (hG.later hb) (hs1.kept (hb.block b (World.ownsMap.lt hs1))) (fun _ h => nomatch h) (by omega) (by simp) g (Nat.le_trans hg (by decide))
  refine ⟨w', h1, some w.heap.size, h2, (fun c e => .inr (by cases e; exact Nat.le_refl _)), (ht1.next (Turns.of_below hb (fun _ => False)) (fun _ _ f => f.elim)).next h3 (fun i hi e => ?_)⟩
  omega
 obtain ⟨hc2, hf2⟩ := cell_of_box_a hblk2
 clear h hs hs1 hG hown hblk1 hblk2 ht1 hbl hbB hsz
 go_enter Tryz.func127, Tryz.ntmps127
 go_wp2_with fail
 generalize (w.setCell ⟨B, 0, none⟩ (.map (some w.heap.size))).alloc (.map #[] 0) = w1 at *

 refine wp_region_last (by kernel_rfl) 7 (fun W => Below w1.heap.size w1 W) (fun W => PutTo10 w B none (putV [] g.data.toList (b, l)) W) (YPut10 B w.heap.size b g) (fun _ => True) ?F ?hF (by kernel_rfl) (by kernel_rfl) (by kernel_rfl) (by kernel_rfl) (by decide) (below_drew (Below.refl _ _)) ?step ?fin
 case hF =>
  intro x
  simp only [List.map_cons, List.map_nil, putL, Act.put, List.setIfInBounds_toArray, List.set_cons_zero, List.set_cons_succ, Nat.zero_add, Nat.reduceAdd]
  exact rfl
 case step =>
  refine ⟨?_, ?_, ?_, ?_, ?_, ?_, ?_, ?_, trivial⟩
  ·
   intro x W
   refine ⟨fun _ hW hdep K hK => ?_, (fun h => absurd h (by decide)), (fun h => absurd h (by decide))⟩
   clear hdep
   go_simp
   exact hK _ _ rfl hW (fun _ _ h => h)
  ·
   intro x W
   refine ⟨fun _ hW hdep K hK => ?_, (fun h => absurd h (by decide)), (fun h => absurd h (by decide))⟩
   have h0 : x 0 = _ := hdep 0 rfl
   clear hdep
   simp only [h0] at hK
   go_simp
   exact hK _ _ rfl hW (fun _ _ h => h)
  ·
   intro x W
   refine ⟨fun _ hW hdep K hK => ?_, (fun h => absurd h (by decide)), (fun h => absurd h (by decide))⟩
   have h1 : x 1 = _ := hdep 1 rfl
   clear hdep
   simp only [h1] at hK
   go_simp
   exact hK _ _ rfl hW (fun _ _ h => h)
  ·
   intro x W
   refine ⟨fun _ hW hdep K hK => ?_, (fun h => absurd h (by decide)), (fun h => absurd h (by decide))⟩
   have h2 : x 2 = _ := hdep 2 rfl
   have c := (HG1.out.later hW).cell
   clear hdep
   simp only [h2] at hK
   go_simp
   exact hK _ _ rfl hW (fun _ _ h => h)
  ·
   intro x W
   refine ⟨fun _ hW hdep K hK => ?_, (fun h => absurd h (by decide)), (fun h => absurd h (by decide))⟩
   clear hdep
   go_simp
   exact hK _ _ rfl hW (fun _ _ h => h)
  ·
   intro x W
   refine ⟨fun _ hW hdep K hK => ?_, (fun h => absurd h (by decide)), (fun h => absurd h (by decide))⟩
   have h4 : x 4 = _ := hdep 4 rfl
   have hc := HC.out W
   clear hdep
   simp only [h4] at hK
   go_simp
   refine hc.mono ?_
   rintro e W' ⟨rfl, hb⟩
   exact hK _ _ rfl (below_next hW hb) (fun _ _ h => h)
  ·
   intro x W
   refine ⟨fun _ hW hdep K hK => ?_, (fun h => absurd h (by decide)), (fun h => absurd h (by decide))⟩
   clear hdep
   go_simp
   exact hK _ _ rfl hW (fun _ _ h => h)
  ·
   intro x W
   refine ⟨(fun h => absurd h (by decide)), fun _ hW hdep K hK => ?_, (fun h => absurd h (by decide))⟩
   have h3 : x 3 = _ := hdep 3 rfl
   have h5 : x 5 = _ := hdep 5 rfl
   have h6 : x 6 = _ := hdep 6 rfl
   obtain ⟨w', hrun, hg⟩ := HST.out W hW
   clear hdep
   simp only [h3, h5, h6] at hK
   go_simp
   exact hK undef _ trivial hg
 case fin =>
  intro x W hW _
  have HF := Lib.hid hW
  clear hW HG1 HST HC
  go_end0
  exact ⟨rfl, HF.out⟩

theorem put10_calls (B b : Nat) (p : Option Nat) (T : Rows10) (l : Set10) (g : ByteArray) (w : World) (h : Grp10 w B p T) (hs : Set10At w b l) (hn : ∀ x ∈ T, x.2.1 ≠ b) (hm : p ≠ some b) (hf : T.length ≤ 1000) (hg : g.size ≤ 1000) :
  Calls Tryz.prog 127 #[.pointer (some ⟨B, 0, none⟩), .string g, .map (some b)] w fun e w' => e = .returned (.tuple #[]) ∧ PutTo10 w B p (putV T g.data.toList (b, l)) w' := by
 cases p with
 | none =>
  have := h.nil rfl
  subst this
  exact put10_none B b l g w h hs hg
 | some m => exact put10_some B m b T l g w h hs hn (fun e => hm (by rw [e])) hf hg

set_option maxRecDepth 100000 in
set_option maxHeartbeats 1000000 in
theorem find10_none (B : Nat) (p : Option Nat) (T : Rows10) (g : ByteArray) (w : World) (h : Grp10 w B p T) (hg : g.size ≤ 9223372036854775807) :
  Calls Tryz.prog 123 #[.pointer (some ⟨B, 0, none⟩), .string g, .slice none 0 0] w fun e w' => e = .returned (.tuple #[.map (if findE10 (plain10 T) g.data.toList [] = 0 then blk10 T g.data.toList else none), .int .i64 (findE10 (plain10 T) g.data.toList [])]) ∧ Below w.heap.size w w' := by
 have HI := Lib.hid h
 have hb0 : Below w.heap.size w (w.alloc (.cells #[.string g] 9)) := below_alloc (Below.refl _ _) _
 have HN := Lib.hid (areNames_one w.heap.size g _ hg (show (w.alloc (.cells #[.string g] 9)).cell? ⟨w.heap.size, 0, none⟩ = some (.string g) by rw [World.cell?_alloc_at _ _ _ _ rfl]; rfl))
 have HB0 := Lib.hid hb0
 have HLK : Hid (∀ W, Below w.heap.size w W → (Instr.lookup 102 (.map p) (.string g) true).run Tryz.prog W = .ok (.tuple #[.map (blk10 T g.data.toList), .bool (hasV T g.data.toList)]) W) := fun W hb => look10 (h.later hb) g (Nat.le_trans hg (by decide))
 unfold findE10
 rw [plain10_has]
 have hbn : hasV T g.data.toList = false → blk10 T g.data.toList = none := blk10_none
 clear hb0 h
 generalize blk10 T g.data.toList = o at *
 generalize hasV T g.data.toList = b at *
 generalize name5 g.data.toList = a at *
 cases a with
 | false =>
  show Calls _ _ _ _ fun e w' => e = .returned (.tuple #[.map none, .int .i64 10]) ∧ Below w.heap.size w w'
  go_enter Tryz.func123, Tryz.ntmps123
  go_wp2_with fail
  with_reducible refine HN.out.mono ?_
  rintro e w1 ⟨rfl, hb⟩
  have HB := Lib.hid (below_next HB0.out hb)
  clear hb HN
  go_wp2
  go_ret2
  exact ⟨rfl, HB.out⟩
 | true =>
  cases b with
  | false =>
   rw [hbn rfl]
   show Calls _ _ _ _ fun e w' => e = .returned (.tuple #[.map none, .int .i64 8]) ∧ Below w.heap.size w w'
   go_enter Tryz.func123, Tryz.ntmps123
   go_wp2_with fail
   with_reducible refine HN.out.mono ?_
   rintro e w1 ⟨rfl, hb⟩
   have hb1 := below_next HB0.out hb
   have HB1 := Lib.hid hb1
   have HM1 := Lib.hid (areNames_none w1)
   clear hb hb1
   go_wp2_with fail
   with_reducible refine HM1.out.mono ?_
   rintro e w2 ⟨rfl, rfl⟩
   have HB2 := HB1
   clear HM1
   have c2 := (HI.out.later HB2.out).cell
   have l2 := HLK.out _ HB2.out
   clear HN HLK HI
   go_wp2
   go_ret2
   exact ⟨rfl, HB2.out⟩
  | true =>
   show Calls _ _ _ _ fun e w' => e = .returned (.tuple #[.map o, .int .i64 0]) ∧ Below w.heap.size w w'
   go_enter Tryz.func123, Tryz.ntmps123
   go_wp2_with fail
   with_reducible refine HN.out.mono ?_
   rintro e w1 ⟨rfl, hb⟩
   have hb1 := below_next HB0.out hb
   have HB1 := Lib.hid hb1
   have HM1 := Lib.hid (areNames_none w1)
   clear hb hb1
   go_wp2_with fail
   with_reducible refine HM1.out.mono ?_
   rintro e w2 ⟨rfl, rfl⟩
   have HB2 := HB1
   clear HM1
   have c2 := (HI.out.later HB2.out).cell
   have l2 := HLK.out _ HB2.out
   clear HN HLK HI
   go_wp2
   go_ret2
   exact ⟨rfl, HB2.out⟩

set_option maxRecDepth 100000 in
set_option maxHeartbeats 1000000 in
theorem find10_one (B : Nat) (p : Option Nat) (T : Rows10) (g : ByteArray) (A : Nat) (n : ByteArray) (w : World) (h : Grp10 w B p T) (hg : g.size ≤ 9223372036854775807) (hn : n.size ≤ 9223372036854775807) (hA : w.cell? ⟨A, 0, none⟩ = some (.string n)) :
  Calls Tryz.prog 123 #[.pointer (some ⟨B, 0, none⟩), .string g, .slice (some ⟨A, 0, none⟩) 1 1] w fun e w' => e = .returned (.tuple #[.map (if findE10 (plain10 T) g.data.toList [n.data.toList] = 0 then blk10 T g.data.toList else none), .int .i64 (findE10 (plain10 T) g.data.toList [n.data.toList])]) ∧ Below w.heap.size w w' := by
 have HI := Lib.hid h
 have hb0 : Below w.heap.size w (w.alloc (.cells #[.string g] 9)) := below_alloc (Below.refl _ _) _
 have HN := Lib.hid (areNames_one w.heap.size g _ hg (show (w.alloc (.cells #[.string g] 9)).cell? ⟨w.heap.size, 0, none⟩ = some (.string g) by rw [World.cell?_alloc_at _ _ _ _ rfl]; rfl))
 have HB0 := Lib.hid hb0
 have HLK : Hid (∀ W, Below w.heap.size w W → (Instr.lookup 102 (.map p) (.string g) true).run Tryz.prog W = .ok (.tuple #[.map (blk10 T g.data.toList), .bool (hasV T g.data.toList)]) W) := fun W hb => look10 (h.later hb) g (Nat.le_trans hg (by decide))
 unfold findE10
 rw [plain10_has]
 have hbn : hasV T g.data.toList = false → blk10 T g.data.toList = none := blk10_none
 have lA : A < w.heap.size := World.block_lt_of_cell? w _ hA
 have HM : Hid (∀ W, Below w.heap.size w W → Calls Tryz.prog 126 #[.slice (some ⟨A, 0, none⟩) 1 1] W (Tells5 (name5 n.data.toList) W)) := fun W hb => areNames_one A n W hn ((hb.cell (p := ⟨A, 0, none⟩) lA).trans hA)
 clear hA lA
 simp only [List.all_cons, List.all_nil, Bool.and_true]
 generalize name5 n.data.toList = d at *
 clear hb0 h
 generalize blk10 T g.data.toList = o at *
 generalize hasV T g.data.toList = b at *
 generalize name5 g.data.toList = a at *
 cases a with
 | false =>
  show Calls _ _ _ _ fun e w' => e = .returned (.tuple #[.map none, .int .i64 10]) ∧ Below w.heap.size w w'
  go_enter Tryz.func123, Tryz.ntmps123
  go_wp2_with fail
  with_reducible refine HN.out.mono ?_
  rintro e w1 ⟨rfl, hb⟩
  have HB := Lib.hid (below_next HB0.out hb)
  clear hb HN
  go_wp2
  go_ret2
  exact ⟨rfl, HB.out⟩
 | true =>
  cases d with
  | false =>
   show Calls _ _ _ _ fun e w' => e = .returned (.tuple #[.map none, .int .i64 10]) ∧ Below w.heap.size w w'
   go_enter Tryz.func123, Tryz.ntmps123
   go_wp2_with fail
   with_reducible refine HN.out.mono ?_
   rintro e w1 ⟨rfl, hb⟩
   have hb1 := below_next HB0.out hb
   have HB1 := Lib.hid hb1
   have HM1 := Lib.hid (HM.out w1 hb1)
   clear hb hb1
   go_wp2_with fail
   with_reducible refine HM1.out.mono ?_
   rintro e w2 ⟨rfl, hb⟩
   have HB2 := Lib.hid (below_next HB1.out hb)
   clear hb HM1 HM
   go_wp2
   go_ret2
   exact ⟨rfl, HB2.out⟩
  | true =>
   cases b with
   | false =>
    rw [hbn rfl]
    show Calls _ _ _ _ fun e w' => e = .returned (.tuple #[.map none, .int .i64 8]) ∧ Below w.heap.size w w'
    go_enter Tryz.func123, Tryz.ntmps123
    go_wp2_with fail
    with_reducible refine HN.out.mono ?_
    rintro e w1 ⟨rfl, hb⟩
    have hb1 := below_next HB0.out hb
    have HB1 := Lib.hid hb1
    have HM1 := Lib.hid (HM.out w1 hb1)
    clear hb hb1
    go_wp2_with fail
    with_reducible refine HM1.out.mono ?_
    rintro e w2 ⟨rfl, hb⟩
    have HB2 := Lib.hid (below_next HB1.out hb)
    clear hb HM1 HM
    have c2 := (HI.out.later HB2.out).cell
    have l2 := HLK.out _ HB2.out
    clear HN HLK HI
    go_wp2
    go_ret2
    exact ⟨rfl, HB2.out⟩
   | true =>
    show Calls _ _ _ _ fun e w' => e = .returned (.tuple #[.map o, .int .i64 0]) ∧ Below w.heap.size w w'
    go_enter Tryz.func123, Tryz.ntmps123
    go_wp2_with fail
    with_reducible refine HN.out.mono ?_
    rintro e w1 ⟨rfl, hb⟩
    have hb1 := below_next HB0.out hb
    have HB1 := Lib.hid hb1
    have HM1 := Lib.hid (HM.out w1 hb1)
    clear hb hb1
    go_wp2_with fail
    with_reducible refine HM1.out.mono ?_
    rintro e w2 ⟨rfl, hb⟩
    have HB2 := Lib.hid (below_next HB1.out hb)
    clear hb HM1 HM
    have c2 := (HI.out.later HB2.out).cell
    have l2 := HLK.out _ HB2.out
    clear HN HLK HI
    go_wp2
    go_ret2
    exact ⟨rfl, HB2.out⟩
end Go.Proofs.YthlgmkfofebbfaaGreatDoor


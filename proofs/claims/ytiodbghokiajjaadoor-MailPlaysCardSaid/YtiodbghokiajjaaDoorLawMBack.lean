/-
  MailBack walked: what is renamed, and renamed back, is as it was; so is what is dropped, and set again.
  Conditions: texts and rows are no longer than they may be.
-/
import Derived.Test.YtiodbghokiajjaaDoorMailOwn
namespace Go.Proofs.YtiodbghokiajjaaDoor
open Go.RowKit Go.Maps

theorem reE9_zero {L : Row7} {o n : List UInt8} (e : reE9 L o n = 0) : name5 n = true ∧ hasE L o = true ∧ (hasE L n = false ∨ n = o) := by
  unfold reE9 at e
  cases hn : name5 n with
  | false => rw [hn] at e; exact absurd e (by simp)
  | true =>
    rw [hn, if_pos rfl] at e
    cases ho : hasE L o with
    | false => rw [ho] at e; exact absurd e (by simp)
    | true =>
      rw [ho, if_pos rfl] at e
      refine ⟨rfl, rfl, ?_⟩
      cases hx : hasE L n with
      | false => exact .inl rfl
      | true =>
        rw [hx, Bool.true_and] at e
        by_cases h : n = o
        · exact .inr h
        · rw [decide_eq_true h] at e; exact absurd e (by simp)
theorem re9_free {L : Row7} {o n : List UInt8} (e : reE9 L o n = 0) : hasE (delE L o) n = false := by
  obtain ⟨_, _, h | h⟩ := reE9_zero e
  · by_cases hno : n = o
    · subst hno; exact hasE_del L n
    · rw [hasE_del_ne hno]; exact h
  · subst h; exact hasE_del L n
theorem back9_get {L : Row7} (hr : Rise7 L) {o n : List UInt8} (e : reE9 L o n = 0) : hasE (reL9 L o n) n = true ∧ getE (reL9 L o n) n = getE L o := by
  unfold reL9
  rw [if_pos e]
  exact ⟨has_put _ _ _, get_put (rise_del hr o) _ _⟩
theorem back9 {L : Row7} (hr : Rise7 L) (ha : ∀ x ∈ L, May9 x) {o n : List UInt8} (e : reE9 L o n = 0) : reE9 (reL9 L o n) n o = 0 ∧ reL9 (reL9 L o n) n o = L := by
  obtain ⟨_, ho, _⟩ := reE9_zero e
  have hmem := hasE_mem ho
  have hno : name5 o = true := (ha _ hmem).1
  have hL1 : reL9 L o n = putE (delE L o) n (getE L o) := if_pos e
  obtain ⟨h1, h2⟩ := back9_get hr e
  have h3 : (hasE (reL9 L o n) o && decide (o ≠ n)) = false := by
    by_cases hon : o = n
    · rw [decide_eq_false (fun h => h hon), Bool.and_false]
    · cases hz : hasE (reL9 L o n) o
      · rfl
      · exfalso
        have := hasE_mem hz
        rw [hL1, mem_putE] at this
        rcases this with h | ⟨h, _⟩
        · injection h with h _; exact hon h
        · exact (mem_del.1 h).2 rfl
  have e1 : reE9 (reL9 L o n) n o = 0 := by
    unfold reE9
    rw [hno, if_pos rfl, h1, if_pos rfl, h3]; rfl
  refine ⟨e1, ?_⟩
  show (if reE9 (reL9 L o n) n o = 0 then putE (delE (reL9 L o n) n) o (getE (reL9 L o n) n) else reL9 L o n) = L
  rw [if_pos e1, h2, hL1, del_put (rise_del hr o) (re9_free e), put_del hr, put_same hr hmem]
theorem again9 {L M : Row7} (h : Mirror9 L M) (ha : ∀ x ∈ L, May9 x) {o : List UInt8} (ho : hasE L o = true) : seE9 (delE L o) o (getE L o) = 0 ∧ seL9 (delE L o) o (getE L o) = L := by
  have hmem := hasE_mem ho
  have hmay := ha _ hmem
  have hne : ¬ getE L o = [] := hmay.ne2
  have hf : fold5 (getE L o) = getE L o := hmay.2.2
  have hb : bad9 (delE L o) o (getE L o) = false := by
    unfold bad9
    cases hz : hasO (delE L o) (getE L o)
    · rfl
    · exfalso
      obtain ⟨h1, h2⟩ := mem_del.1 (hasO_mem hz)
      exact h2 (h.one h1 hmem)
  have e1 : seE9 (delE L o) o (getE L o) = 0 := by
    unfold seE9
    rw [hmay.1, if_pos rfl, if_neg hne, hmay.2.1, if_pos rfl, hf, hb]; rfl
  refine ⟨e1, ?_⟩
  unfold seL9
  rw [if_pos e1, if_neg hne, hf, put_del h.rl, put_same h.rl hmem]
theorem seL9_len {L : Row7} (hr : Rise7 L) (n m : List UInt8) : (seL9 L n m).length ≤ L.length + 1 := by
  unfold seL9
  split
  · split
    · exact Nat.le_trans (List.length_filter_le _ _) (Nat.le_succ _)
    · exact put_le9 hr _ _
  · exact Nat.le_succ _
theorem reL9_len {L : Row7} (hr : Rise7 L) (o n : List UInt8) : (reL9 L o n).length ≤ L.length + 1 := by
  unfold reL9
  split
  · exact Nat.le_trans (put_le9 (rise_del hr _) _ _) (Nat.succ_le_succ (List.length_filter_le _ _))
  · exact Nat.le_succ _
theorem few9_len {l : List Act7} (h : few9 l = true) : l.length ≤ 60 := by
  unfold few9 at h
  simp only [Bool.and_eq_true, decide_eq_true_eq] at h
  exact h.2

set_option maxRecDepth 100000 in
set_option maxHeartbeats 4000000 in
theorem mback_walk (A : Option Addr) (c n : Nat) (l : List Act7) (old next : ByteArray) (w : World) (hl : n = l.length) (hn : n ≤ 9223372036854775807) (hr : RdA7 w A l) (hsz : ∀ t ∈ l, t.nm.size ≤ 9223372036854775807 ∧ t.hs.size ≤ 9223372036854775807) (h5 : Len5 w) :
    Calls Tryd.prog 5 #[.slice A n c, .string old, .string next] w (Tells5 true w) := by
  have hnot : ∀ (x : Bool) (w : World), (Op.unary .not (.bool x)).run Tryd.prog w = .ok (.bool (!x)) w := fun _ _ => rfl
  have HV : Hid (∀ W, Below w.heap.size w W → Calls Tryd.prog 6 #[] W (Tells5 true W)) := fun W hb => lives9_calls W (h5.later hb)
  have HNW : Hid (∀ W, Calls Tryd.prog 8 #[] W fun e w' => e = .returned (.pointer (some ⟨W.heap.size, 0, none⟩)) ∧ w' = W.alloc (.cells #[.map none, .map none] 54)) := fun W => new9_calls W
  have HF : Hid (∀ W, Below w.heap.size w W → Calls Tryd.prog 7 #[.slice A n c] W (Tells5 (few9 l) W)) := fun W hb => few9_calls A c n l W hl hn (hr.later hb)
  have HFW : Hid (few9 l = true → n ≤ 60) := fun h => by rw [hl]; exact few9_len h
  have HR := Lib.hid hr
  have HL := Lib.hid hl
  have HSZ := Lib.hid hsz
  have H5 := Lib.hid h5
  clear hr hl hsz h5
  generalize few9 l = q at *
  go_enter Tryd.func5, Tryd.ntmps5
  go_wp2_with fail
  with_reducible refine (HV.out w (Below.refl _ _)).mono ?_
  rintro e w1 ⟨rfl, hb⟩
  have HB1 := Lib.hid hb
  clear hb
  go_wp2_with fail
  with_reducible refine (HF.out w1 HB1.out).mono ?_
  rintro e w2 ⟨rfl, hb⟩
  have HB2 := Lib.hid (below_next HB1.out hb)
  clear hb HF HB1
  have BAD : Hid (∀ W, Below w.heap.size w W → Calls Tryd.prog 6 #[] W fun e w' => e = .returned (.bool true) ∧ Hid (Below w.heap.size w w')) := fun W hb => (HV.out W hb).mono fun e w' ⟨he, hb'⟩ => ⟨he, below_next hb hb'⟩
  clear HV
  cases q with
  | false =>
    go_wp2_with fail
    with_reducible refine (BAD.out w2 HB2.out).mono ?_
    rintro e w3 ⟨rfl, HB3⟩
    go_wp2
    go_ret
    exact ⟨rfl, HB3.out⟩
  | true =>
  have hn60 := HFW.out rfl
  clear HFW
  by_cases hp50 : old.size ≤ 50
  case neg =>
    have z : (old.size : Int) > 50 := by omega
    have z' : 50 < old.size := by omega
    have z2 : decide ((old.size : Int) > 50) = true := decide_eq_true z
    go_wp2_with fail
    with_reducible refine (BAD.out w2 HB2.out).mono ?_
    rintro e w3 ⟨rfl, HB3⟩
    go_wp2
    go_ret
    exact ⟨rfl, HB3.out⟩
  by_cases hm50 : next.size ≤ 50
  case neg =>
    have y : ¬ (old.size : Int) > 50 := by omega
    have y' : ¬ 50 < old.size := by omega
    have y2 : decide ((old.size : Int) > 50) = false := decide_eq_false y
    have z : (next.size : Int) > 50 := by omega
    have z' : 50 < next.size := by omega
    have z2 : decide ((next.size : Int) > 50) = true := decide_eq_true z
    go_wp2_with fail
    with_reducible refine (BAD.out w2 HB2.out).mono ?_
    rintro e w3 ⟨rfl, HB3⟩
    go_wp2
    go_ret
    exact ⟨rfl, HB3.out⟩
  have y : ¬ (old.size : Int) > 50 := by omega
  have y' : ¬ 50 < old.size := by omega
  have y2 : decide ((old.size : Int) > 50) = false := decide_eq_false y
  have z : ¬ (next.size : Int) > 50 := by omega
  have z' : ¬ 50 < next.size := by omega
  have z2 : decide ((next.size : Int) > 50) = false := decide_eq_false z
  clear BAD
  go_wp2_with fail
  with_reducible refine (HNW.out w2).mono ?_
  rintro e w3 ⟨rfl, rfl⟩
  have HO := Lib.hid (own9_new w2)
  generalize w2.alloc (.cells #[.map none, .map none] 54) = w3 at *
  generalize w2.heap.size = B at *
  clear HNW y y' y2 z z' z2
  go_wp2
  go_loopg [9, 37] n (fun gg _ s37 wr => ∃ k : Nat, k ≤ n ∧ n - k ≤ gg ∧ s37 = .int .i64 k ∧ Hid (∃ L, Own9 w2 wr B L ∧ L.length ≤ k))
  case atStart => exact ⟨0, Nat.zero_le _, by omega, rfl, ⟨_, HO.out, by simp⟩⟩
  case round =>
    obtain ⟨k, hk, hg, rfl, HW⟩ := hrel
    by_cases hlt : k < n
    · have hltz : (k : Int) < (n : Int) := by omega
      have hkl : k < l.length := HL.out ▸ hlt
      obtain ⟨L, ho, hlk⟩ := HW.out
      obtain ⟨b, off, rfl, hb, hc⟩ := (HR.out.later (below_next HB2.out ho.below)) (by intro e; rw [e] at hkl; exact absurd hkl (Nat.not_lt_zero _))
      have c0 : wr.cell? ⟨b, off + k * 3, none⟩ = some (.int .u8 (l[k].kd : Int)) := hc k hkl 0 _ rfl
      have c1 : wr.cell? ⟨b, off + k * 3 + 1, none⟩ = some (.string l[k].nm) := hc k hkl 1 _ rfl
      have c2 : wr.cell? ⟨b, off + k * 3 + 2, none⟩ = some (.string l[k].hs) := hc k hkl 2 _ rfl
      have ho2 := ho.later (below_alloc (Below.refl wr.heap.size wr) (.cells #[.int .u8 (l[k].kd : Int), .string l[k].nm, .string l[k].hs] 29))
      have HC := Lib.hid (ho2.set l[k].nm l[k].hs (HSZ.out _ (List.getElem_mem hkl)).1 (HSZ.out _ (List.getElem_mem hkl)).2 (by omega) (H5.out.later (below_next HB2.out ho2.below)))
      have HLN : Hid ((seL9 L l[k].nm.data.toList l[k].hs.data.toList).length ≤ k + 1) := Nat.le_trans (seL9_len ho.rise _ _) (by omega)
      clear hc hb ho ho2
      generalize seE9 L l[k].nm.data.toList l[k].hs.data.toList = x at *
      generalize seL9 L l[k].nm.data.toList l[k].hs.data.toList = L' at *
      generalize l[k].kd = kd at *
      generalize l[k].nm = nm at *
      generalize l[k].hs = hs at *
      go_wp2_with (go_at_call 15; (with_reducible refine HC.out.mono ?_); rintro e w5 ⟨rfl, ho, _⟩; have HO5 : Hid (∃ L, Own9 w2 w5 B L ∧ L.length ≤ k + 1) := ⟨_, ho, HLN.out⟩; clear ho)
      go_roundg (n - (k + 1))
      case measure => omega
      case rel => exact ⟨k + 1, by omega, by omega, by go_num, HO5⟩
    · have hltz : ¬ (k : Int) < (n : Int) := by omega
      obtain rfl : k = n := by omega
      obtain ⟨L, ho, hlk⟩ := HW.out
      have hfew := ho.few
      have hrise := ho.rise
      have hall := ho.all
      obtain ⟨M, hmir⟩ := ho.mir
      have HO1 := Lib.hid ho
      have HP := Lib.hid ho.pairs100
      clear ho HW HO HR HL HSZ
      go_wp2_with fail
      with_reducible refine HP.out.mono ?_
      rintro e w4 ⟨v, rfl, hp, hb⟩
      have hrow := Row9.of_own hp
      obtain ⟨Aw, cw, rfl⟩ := hrow.shape
      have HRW := Lib.hid hrow
      have HO4 := Lib.hid (HO1.out.later hb)
      have HOF := Lib.hid (HO4.out.of_ old (by omega))
      have HRE := Lib.hid (HO4.out.rename old next (by omega) (by omega))
      clear hp hb hrow HP HO1
      go_wp2_with fail
      with_reducible refine HOF.out.mono ?_
      rintro e w5 ⟨rfl, rfl⟩
      go_wp2_with fail
      with_reducible refine HRE.out.mono ?_
      rintro e w6 ⟨rfl, ho, hkp⟩
      have HO6 := Lib.hid ho
      have HRW6 := Lib.hid (HRW.out.keeps hkp)
      clear ho hkp HOF HRE HRW HO4
      by_cases h0 : reE9 L old.data.toList next.data.toList = 0
      case neg =>
        have hL' : reL9 L old.data.toList next.data.toList = L := if_neg h0
        rw [hL'] at HO6
        have HP6 := Lib.hid HO6.out.pairs100
        clear hL' hmir hall hrise
        generalize tx7 (getE L old.data.toList) = m at *
        generalize hasE L old.data.toList = is at *
        generalize reE9 L old.data.toList next.data.toList = r at *
        have b1 : (r != 0) = true := by simpa using h0
        go_wp2_with fail
        with_reducible refine HP6.out.mono ?_
        rintro e w7 ⟨v, rfl, hp, hb⟩
        have hrow := Row9.of_own hp
        obtain ⟨Ax, cx, rfl⟩ := hrow.shape
        have HS := Lib.hid (same9_calls _ _ L w7 hrow.pv (HRW6.out.later hb).pv (by omega))
        have HB7 := Lib.hid (below_next HB2.out (HO6.out.later hb).below)
        clear hp hb hrow HP6 HRW6 HO6
        go_wp2_with fail
        with_reducible refine HS.out.mono ?_
        rintro e w8 ⟨rfl, hb⟩
        have HB8 := Lib.hid (below_next HB7.out hb)
        clear hb HS
        go_wp2
        go_ret
        exact ⟨rfl, HB8.out⟩
      obtain ⟨_, hho, _⟩ := reE9_zero h0
      obtain ⟨g1, g2⟩ := back9_get hrise h0
      obtain ⟨k1, k2⟩ := back9 hrise hall h0
      obtain ⟨s1, s2⟩ := again9 hmir hall hho
      have HOF := HO6.out.of_ next (by omega)
      rw [g1, g2] at HOF
      have HOF2 := Lib.hid HOF
      have HRE : Hid (∀ W, Own9 w2 W B (reL9 L old.data.toList next.data.toList) → Calls Tryd.prog 13 #[.pointer (some ⟨B, 0, none⟩), .string next, .string old] W fun e w' => e = .returned (.int .i64 0) ∧ Own9 w2 w' B L ∧ Keeps9 W w') := fun W h => by
        have := h.rename next old (by omega) (by omega)
        rw [k1, k2] at this
        exact this
      have HD1 : Hid (∀ W, Own9 w2 W B L → Calls Tryd.prog 11 #[.pointer (some ⟨B, 0, none⟩), .string old] W fun e w' => e = .returned (.bool true) ∧ Own9 w2 w' B (delE L old.data.toList) ∧ Keeps9 W w') := fun W h => by
        have := h.drop old (by omega)
        rw [hho] at this
        exact this
      have HD2 : Hid (∀ W, Own9 w2 W B (delE L old.data.toList) → Calls Tryd.prog 11 #[.pointer (some ⟨B, 0, none⟩), .string old] W fun e w' => e = .returned (.bool false) ∧ Own9 w2 w' B (delE L old.data.toList) ∧ Keeps9 W w') := fun W h => by
        have := h.drop old (by omega)
        rw [hasE_del, del_of_not (hasE_del L _)] at this
        exact this
      have hmz : (tx7 (getE L old.data.toList)).size ≤ 9223372036854775807 := by
        rw [tx7_size]; exact Nat.le_trans (mail5_len (hall _ (hasE_mem hho)).2.1) (by decide)
      have HST : Hid (∀ W, Own9 w2 W B (delE L old.data.toList) → Calls Tryd.prog 15 #[.pointer (some ⟨B, 0, none⟩), .string old, .string (tx7 (getE L old.data.toList))] W fun e w' => e = .returned (.int .i64 0) ∧ Own9 w2 w' B L ∧ Keeps9 W w') := fun W h => by
        have := h.set old (tx7 (getE L old.data.toList)) (by omega) hmz (Nat.lt_of_le_of_lt (List.length_filter_le _ _) (by omega)) (H5.out.later (below_next HB2.out h.below))
        rw [tx7_list, s1, s2] at this
        exact this
      have HPR : Hid (∀ W, Own9 w2 W B L → Calls Tryd.prog 22 #[.pointer (some ⟨B, 0, none⟩), .int .i64 100] W fun e w' => ∃ v, e = .returned v ∧ Prs9 W.heap.size w' v L ∧ Below W.heap.size W w') := fun W h => h.pairs100
      rw [h0, hho]
      clear g1 g2 k1 k2 s1 s2 hmz HOF hmir hall hrise h0
      generalize reL9 L old.data.toList next.data.toList = L1 at *
      generalize delE L old.data.toList = L3 at *
      generalize hgm : tx7 (getE L old.data.toList) = m at *
      clear hgm hho
      have n1 : (m.toList != m.toList) = false := by simp
      have n2 : (m.toList == m.toList) = true := by simp
      go_wp2_with fail
      with_reducible refine HOF2.out.mono ?_
      rintro e w7 ⟨rfl, rfl⟩
      have HRE2 := Lib.hid (HRE.out _ HO6.out)
      clear HRE HOF2
      go_wp2_with fail
      with_reducible refine HRE2.out.mono ?_
      rintro e w8 ⟨rfl, ho, hkp⟩
      have HO8 := Lib.hid ho
      have HRW8 := Lib.hid (HRW6.out.keeps hkp)
      have HP8 := Lib.hid (HPR.out w8 ho)
      clear ho hkp HRE2 HRW6 HO6
      go_wp2_with fail
      with_reducible refine HP8.out.mono ?_
      rintro e w9 ⟨v, rfl, hp, hb⟩
      have hrow := Row9.of_own hp
      obtain ⟨Ax, cx, rfl⟩ := hrow.shape
      have HRW9 := Lib.hid (HRW8.out.later hb)
      have HS := Lib.hid (same9_calls _ _ L w9 hrow.pv HRW9.out.pv (by omega))
      have HO9 := Lib.hid (HO8.out.later hb)
      clear hp hb hrow HP8 HRW8 HO8
      go_wp2_with fail
      with_reducible refine HS.out.mono ?_
      rintro e w10 ⟨rfl, hb⟩
      have HO10 := Lib.hid (HO9.out.later hb)
      have HRW10 := Lib.hid (HRW9.out.later hb)
      have HDA := Lib.hid (HD1.out w10 HO10.out)
      clear hb HS HO9 HRW9 HD1
      go_wp2_with fail
      with_reducible refine HDA.out.mono ?_
      rintro e w11 ⟨rfl, ho, hkp⟩
      have HRW11 := Lib.hid (HRW10.out.keeps hkp)
      have HDB := Lib.hid (HD2.out w11 ho)
      clear ho hkp HDA HD2 HRW10 HO10
      go_wp2_with fail
      with_reducible refine HDB.out.mono ?_
      rintro e w12 ⟨rfl, ho, hkp⟩
      have HRW12 := Lib.hid (HRW11.out.keeps hkp)
      have HSA := Lib.hid (HST.out w12 ho)
      clear ho hkp HDB HST HRW11
      go_wp2_with fail
      with_reducible refine HSA.out.mono ?_
      rintro e w13 ⟨rfl, ho, hkp⟩
      have HO13 := Lib.hid ho
      have HRW13 := Lib.hid (HRW12.out.keeps hkp)
      have HP13 := Lib.hid (HPR.out w13 ho)
      clear ho hkp HSA HPR HRW12
      go_wp2_with fail
      with_reducible refine HP13.out.mono ?_
      rintro e w14 ⟨v, rfl, hp, hb⟩
      have hrow := Row9.of_own hp
      obtain ⟨Ay, cy, rfl⟩ := hrow.shape
      have HS := Lib.hid (same9_calls _ _ L w14 hrow.pv (HRW13.out.later hb).pv (by omega))
      have HB14 := Lib.hid (below_next HB2.out (HO13.out.later hb).below)
      clear hp hb hrow HP13 HRW13 HO13
      go_wp2_with fail
      with_reducible refine HS.out.mono ?_
      rintro e w15 ⟨rfl, hb⟩
      have HB15 := Lib.hid (below_next HB14.out hb)
      clear hb HS
      go_wp2
      go_ret
      exact ⟨rfl, HB15.out⟩
end Go.Proofs.YtiodbghokiajjaaDoor

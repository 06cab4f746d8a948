/-
  What Name, Prefix and Hash of package name tell of a text, as plain functions on its bytes.
  Conditions: the text is no longer than a text may be.
-/
import Derived.Test.YtclnkboejbnfnaaGreatDoorAsk
import Derived.BigQuiet
namespace Go.Proofs.YtclnkboejbnfnaaGreatDoor
open Go.RowKit

/-- A prefix. -/
def pref5 (l : List UInt8) : Bool := decide (l.length ≤ 12) && l.all sign5
/-- A name. -/
def name5 (l : List UInt8) : Bool := decide (1 ≤ l.length) && pref5 l && letter5 (l.headD 0) && both5 (l.getLastD 0)
/-- A digit of a sum. -/
def hexa5 (x : UInt8) : Bool := digit5 x || inR 97 102 x
/-- A sum. -/
def hash5 (l : List UInt8) : Bool := decide (1 ≤ l.length) && decide (l.length ≤ 12) && l.all hexa5

/-- A truth is told, nothing that was there has turned. -/
def Tells5 (b : Bool) (w : World) (e : Ending) (w' : World) : Prop := e = .returned (.bool b) ∧ Below w.heap.size w w'
/-- An error's number is told, nothing that was there has turned. -/
def Errs5 (n : Int) (w : World) (e : Ending) (w' : World) : Prop := e = .returned (.int .i64 n) ∧ Below w.heap.size w w'

theorem size_list (s : ByteArray) : s.data.toList.length = s.size := by simp

set_option maxRecDepth 100000 in
theorem prefix_calls (s : ByteArray) (w : World) (hs : s.size ≤ 9223372036854775807) :
    Calls Tryz.prog 173 #[.string s] w (Tells5 (pref5 s.data.toList) w) := by
  generalize hr : pref5 s.data.toList = r
  have hr' : (decide (s.size ≤ 12) && s.data.toList.all sign5) = r := by rw [← hr, pref5, size_list]
  clear hr
  have HS := Lib.hid hs
  have HV : Hid (∀ g lb w, Asks (.func (.func g) #[] lb) sign5 w → Calls Tryz.prog 237 #[.string s, .func (.func g) #[] lb] w fun e w' => e = .returned (.bool (s.data.toList.all sign5)) ∧ ∃ q, w' = w.drewN q) :=
    fun g lb w ha => every_calls s g lb sign5 w hs ha
  by_cases h12 : s.size ≤ 12
  · have hr2 : s.data.toList.all sign5 = r := by simpa [h12] using hr'
    rw [hr2] at HV
    clear hr' hr2 hs
    generalize hn : s.size = n at *
    have z : (n : Int) ≤ 12 := by omega
    have HC := Lib.hid (sign_calls w)
    go_enter Tryz.func173, Tryz.ntmps173
    go_wp2_with fail
    with_reducible refine HC.out.mono ?_
    rintro e w1 ⟨g, lb, rfl, ha, hb⟩
    have HB := Lib.hid hb
    have HE := Lib.hid (HV.out g lb w1 ha)
    clear ha hb HC HV
    go_wp2_with fail
    with_reducible refine HE.out.mono ?_
    rintro e w2 ⟨rfl, q, rfl⟩
    go_wp2
    go_ret
    exact ⟨rfl, below_drewN HB.out q⟩
  · have hr2 : false = r := by simpa [h12] using hr'
    clear hr' HV
    subst hr2
    generalize hn : s.size = n at *
    have z : ¬ (n : Int) ≤ 12 := by omega
    go_enter Tryz.func173, Tryz.ntmps173
    go_wp2
    go_ret
    exact ⟨rfl, Below.refl _ _⟩

theorem Asks.at_ {g : Nat} {lb : Array Value} {p : UInt8 → Bool} {w : World} (h : Asks (.func (.func g) #[] lb) p w) (x : UInt8) (n : Int) (hx : (x.toNat : Int) = n) (b : Bool) (hb : p x = b) :
    (∀ args w, (callFunc g args).run Tryz.prog w = .ok (.enter g args) w) ∧ Calls Tryz.prog g (#[.int .u8 n] ++ lb) w fun e w' => e = .returned (.bool b) ∧ ∃ q, w' = w.drewN q := by
  obtain ⟨g', lb', hv, eg, hp⟩ := h
  obtain ⟨rfl, rfl⟩ : g' = g ∧ lb' = lb := by simpa using hv.symm
  subst hx; subst hb
  exact ⟨eg, hp w x (Below.refl _ _)⟩

theorem bt5_eq (s : ByteArray) (k : Nat) (h : k < s.size) : (s[k].toNat : Int) = bt5 s k := by unfold bt5; rw [dif_pos h]

theorem head_at (s : ByteArray) (h : 0 < s.size) : s.data.toList.headD 0 = s[0] := by
  obtain ⟨⟨l⟩⟩ := s
  cases l with
  | nil => exact absurd h (by decide)
  | cons a l => rfl
theorem last_at (s : ByteArray) (h : 0 < s.size) : s.data.toList.getLastD 0 = s[s.size - 1] := by
  obtain ⟨⟨l⟩⟩ := s
  have hl0 : l ≠ [] := by intro e; subst e; exact absurd h (by decide)
  rw [List.getLastD_eq_getLast?, List.getLast?_eq_some_getLast hl0]
  simp [List.getLast_eq_getElem]
  rfl

set_option maxRecDepth 100000 in
theorem name_calls (s : ByteArray) (w : World) (hs : s.size ≤ 9223372036854775807) :
    Calls Tryz.prog 165 #[.string s] w (Tells5 (name5 s.data.toList) w) := by
  by_cases h0 : s.size = 0
  · obtain rfl : s = ⟨#[]⟩ := by
      obtain ⟨d⟩ := s
      obtain rfl : d = #[] := Array.eq_empty_of_size_eq_zero h0
      rfl
    have : name5 (ByteArray.mk #[]).data.toList = false := rfl
    rw [this]
    clear this hs h0
    go_enter Tryz.func165, Tryz.ntmps165
    go_wp2
    go_ret
    exact ⟨rfl, Below.refl _ _⟩
  · have hne : ¬ s.toList = [] := fun e => h0 (by rw [← size_list, ← ByteArray.toList_eq, e]; rfl)
    have hne2 : s.toList.isEmpty = false := by simpa using hne
    have hpos : 0 < s.size := by omega
    have hh := head_at s hpos
    have hl := last_at s hpos
    have he : name5 s.data.toList = (pref5 s.data.toList && letter5 s[0] && both5 s[s.size - 1]) := by
      unfold name5
      rw [hh, hl, size_list, decide_eq_true (by omega : 1 ≤ s.size), Bool.true_and]
    rw [he]
    clear he hh hl
    have HP := Lib.hid (prefix_calls s w hs)
    have hb0 := bt5_eq s 0 hpos
    have hb1 := bt5_eq s (s.size - 1) (by omega)
    have HA0 : Hid (∀ g lb w, Asks (.func (.func g) #[] lb) letter5 w → _) := fun g lb w ha => Asks.at_ (w := w) (g := g) (lb := lb) ha s[0] _ hb0 _ rfl
    have HA1 : Hid (∀ g lb w, Asks (.func (.func g) #[] lb) both5 w → _) := fun g lb w ha => Asks.at_ (w := w) (g := g) (lb := lb) ha s[s.size - 1] _ hb1 _ rfl
    have HS0 : Hid (∀ (h : 0 < s.size), ((s[0]'h).toNat : Int) = bt5 s 0) := fun h => bt5_eq s 0 h
    have HS1 : Hid (∀ (h : s.size - 1 < s.size), ((s[s.size - 1]'h).toNat : Int) = bt5 s (s.size - 1)) := fun h => bt5_eq s _ h
    clear hb0 hb1
    generalize pref5 s.data.toList = bp at *
    generalize letter5 s[0] = b0 at *
    generalize both5 s[s.size - 1] = b1 at *
    generalize bt5 s 0 = n0 at *
    generalize hn1 : bt5 s (s.size - 1) = n1 at *
    clear hn1
    cases bp with
    | false =>
      show Calls _ _ _ _ (Tells5 false w)
      clear HA0 HA1 HS0 HS1
      generalize hn : s.size = n at *
      go_enter Tryz.func165, Tryz.ntmps165
      go_wp2_with fail
      with_reducible refine HP.out.mono ?_
      rintro e w1 ⟨rfl, hb⟩
      have HB := Lib.hid hb
      clear hb HP
      go_wp2
      go_ret
      exact ⟨rfl, HB.out⟩
    | true =>
      show Calls _ _ _ _ (Tells5 (b0 && b1) w)
      have hs0 := HS0.out
      have hs1 := HS1.out
      have z : (s.size : Int) - 1 = ((s.size - 1 : Nat) : Int) := by omega
      clear HS0 HS1
      go_enter Tryz.func165, Tryz.ntmps165
      go_wp2_with fail
      with_reducible refine HP.out.mono ?_
      rintro e w1 ⟨rfl, hb⟩
      have HB := Lib.hid hb
      clear hb HP
      go_wp2_with fail
      go_quiet (fail)
      clear hs0 hs1 z
      generalize hw2 : w1.drewN nq = w2
      have HB2 := Lib.hid (hw2 ▸ below_drewN HB.out nq)
      clear hw2 HB
      generalize hn : s.size = n at *
      generalize ((n - 1 : Nat) : Int) = nm at *
      have HC := Lib.hid (letter_calls w2)
      go_wp2_with fail
      with_reducible refine HC.out.mono ?_
      rintro e w3 ⟨g, lb, rfl, ha, hb⟩
      have HB3 := Lib.hid (below_next HB2.out hb)
      obtain ⟨eg, hc⟩ := HA0.out g lb w3 ha
      have HC0 := Lib.hid hc
      clear ha hb HC HB2 HA0 hc
      cases b0 with
      | false =>
        show _
        go_wp2_with (go_at_fn g; refine HC0.out.mono ?_; rintro e w4 ⟨rfl, q, rfl⟩)
        go_ret
        exact ⟨rfl, below_drewN HB3.out q⟩
      | true =>
        go_wp2_with (first | (go_at_fn g; refine HC0.out.mono ?_; rintro e w4 ⟨rfl, q, rfl⟩) | fail)
        have HD := Lib.hid (both_calls (w3.drewN q))
        with_reducible refine HD.out.mono ?_
        rintro e w5 ⟨g', lb', rfl, ha, hb⟩
        have HB5 := Lib.hid (below_next (below_drewN HB3.out q) hb)
        obtain ⟨eg', hc⟩ := HA1.out g' lb' w5 ha
        have HC1 := Lib.hid hc
        clear ha hb HB3 HA1 hc HD eg HC0
        go_wp2_with (go_at_fn g'; refine HC1.out.mono ?_; rintro e w6 ⟨rfl, q', rfl⟩)
        go_ret
        exact ⟨by simp, below_drewN HB5.out q'⟩

set_option maxRecDepth 100000 in
theorem hash_calls (s : ByteArray) (w : World) (hs : s.size ≤ 9223372036854775807) :
    Calls Tryz.prog 232 #[.string s] w (Tells5 (hash5 s.data.toList) w) := by
  by_cases h0 : s.size = 0
  · obtain rfl : s = ⟨#[]⟩ := by
      obtain ⟨d⟩ := s
      obtain rfl : d = #[] := Array.eq_empty_of_size_eq_zero h0
      rfl
    have : hash5 (ByteArray.mk #[]).data.toList = false := rfl
    rw [this]
    clear this hs h0
    go_enter Tryz.func232, Tryz.ntmps232
    go_wp2
    go_ret
    exact ⟨rfl, Below.refl _ _⟩
  · have hne : ¬ s.toList = [] := fun e => h0 (by rw [← size_list, ← ByteArray.toList_eq, e]; rfl)
    have hne2 : s.toList.isEmpty = false := by simpa using hne
    have he : hash5 s.data.toList = (decide (s.size ≤ 12) && s.data.toList.all hexa5) := by
      unfold hash5
      rw [size_list, decide_eq_true (by omega : 1 ≤ s.size), Bool.true_and]
    have HV : Hid (∀ g lb w, Asks (.func (.func g) #[] lb) hexa5 w → Calls Tryz.prog 237 #[.string s, .func (.func g) #[] lb] w fun e w' => e = .returned (.bool (s.data.toList.all hexa5)) ∧ ∃ q, w' = w.drewN q) :=
      fun g lb w ha => every_calls s g lb hexa5 w hs ha
    by_cases h12 : s.size ≤ 12
    · rw [he, decide_eq_true h12, Bool.true_and]
      clear he
      generalize s.data.toList.all hexa5 = r at *
      generalize hn : s.size = n at *
      have z : (n : Int) ≤ 12 := by omega
      have HC := Lib.hid (digit_calls w)
      go_enter Tryz.func232, Tryz.ntmps232
      go_wp2_with fail
      with_reducible refine HC.out.mono ?_
      rintro e w1 ⟨g1, lb1, rfl, ha, hb⟩
      have HA1 := Lib.hid ha
      have HB1 := Lib.hid hb
      have HC2 := Lib.hid (within_int 97 102 97 102 rfl rfl w1)
      clear ha hb HC
      go_wp2_with fail
      with_reducible refine HC2.out.mono ?_
      rintro e w2 ⟨g2, lb2, rfl, ha, hb⟩
      have HA2 := Lib.hid ha
      have HA1' := Lib.hid (HA1.out.later hb)
      have HB2 := Lib.hid (below_next HB1.out hb)
      clear ha hb HC2 HA1 HB1
      go_wp2_with fail
      have bl := below_alloc (Below.refl w2.heap.size w2) (.cells #[.func (.func g1) #[] lb1, .func (.func g2) #[] lb2] 230)
      refine (either_calls _ 2 _ [(_, digit5), (_, inR 97 102)] _ rfl (by omega) (AskRow.two (by simp) (by simp) (by simp) (HA1'.out.later bl) (HA2.out.later bl))).mono ?_
      rintro e w3 ⟨g, lb, rfl, ha, hb⟩
      have HE := Lib.hid (HV.out g lb w3 (ha.like (p' := hexa5) fun x => by simp [hexa5]))
      have HB := Lib.hid (below_next (below_next HB2.out bl) hb)
      clear ha hb bl HV HA1' HA2 HB2
      go_wp2_with fail
      with_reducible refine HE.out.mono ?_
      rintro e w4 ⟨rfl, q, rfl⟩
      go_wp2
      go_ret
      exact ⟨rfl, below_drewN HB.out q⟩
    · rw [he, decide_eq_false h12, Bool.false_and]
      clear he HV
      generalize hn : s.size = n at *
      have z : ¬ (n : Int) ≤ 12 := by omega
      go_enter Tryz.func232, Tryz.ntmps232
      go_wp2
      go_ret
      exact ⟨rfl, Below.refl _ _⟩

/-- The number of an error, or 0. -/
def err5 (b : Bool) (n : Int) : Int := if b then 0 else n

set_option maxRecDepth 100000 in
theorem Name_calls (s : ByteArray) (w : World) (hs : s.size ≤ 9223372036854775807) :
    Calls Tryz.prog 81 #[.string s] w (Errs5 (err5 (name5 s.data.toList) 10) w) := by
  have HP := Lib.hid (name_calls s w hs)
  generalize name5 s.data.toList = b at *
  cases b with
  | false =>
    show Calls _ _ _ _ (Errs5 10 w)
    go_enter Tryz.func81, Tryz.ntmps81
    go_wp2_with fail
    with_reducible refine HP.out.mono ?_
    rintro e w1 ⟨rfl, hb⟩
    have HB := Lib.hid hb
    clear hb HP
    go_wp2
    go_ret
    exact ⟨rfl, HB.out⟩
  | true =>
    show Calls _ _ _ _ (Errs5 0 w)
    go_enter Tryz.func81, Tryz.ntmps81
    go_wp2_with fail
    with_reducible refine HP.out.mono ?_
    rintro e w1 ⟨rfl, hb⟩
    have HB := Lib.hid hb
    clear hb HP
    go_wp2
    go_ret
    exact ⟨rfl, HB.out⟩

set_option maxRecDepth 100000 in
theorem Prefix_calls (s : ByteArray) (w : World) (hs : s.size ≤ 9223372036854775807) :
    Calls Tryz.prog 88 #[.string s] w (Errs5 (err5 (pref5 s.data.toList) 10) w) := by
  have HP := Lib.hid (prefix_calls s w hs)
  generalize pref5 s.data.toList = b at *
  cases b with
  | false =>
    show Calls _ _ _ _ (Errs5 10 w)
    go_enter Tryz.func88, Tryz.ntmps88
    go_wp2_with fail
    with_reducible refine HP.out.mono ?_
    rintro e w1 ⟨rfl, hb⟩
    have HB := Lib.hid hb
    clear hb HP
    go_wp2
    go_ret
    exact ⟨rfl, HB.out⟩
  | true =>
    show Calls _ _ _ _ (Errs5 0 w)
    go_enter Tryz.func88, Tryz.ntmps88
    go_wp2_with fail
    with_reducible refine HP.out.mono ?_
    rintro e w1 ⟨rfl, hb⟩
    have HB := Lib.hid hb
    clear hb HP
    go_wp2
    go_ret
    exact ⟨rfl, HB.out⟩

set_option maxRecDepth 100000 in
theorem Hash_calls (s : ByteArray) (w : World) (hs : s.size ≤ 9223372036854775807) :
    Calls Tryz.prog 154 #[.string s] w (Errs5 (err5 (hash5 s.data.toList) 4) w) := by
  have HP := Lib.hid (hash_calls s w hs)
  generalize hash5 s.data.toList = b at *
  cases b with
  | false =>
    show Calls _ _ _ _ (Errs5 4 w)
    go_enter Tryz.func154, Tryz.ntmps154
    go_wp2_with fail
    with_reducible refine HP.out.mono ?_
    rintro e w1 ⟨rfl, hb⟩
    have HB := Lib.hid hb
    clear hb HP
    go_wp2
    go_ret
    exact ⟨rfl, HB.out⟩
  | true =>
    show Calls _ _ _ _ (Errs5 0 w)
    go_enter Tryz.func154, Tryz.ntmps154
    go_wp2_with fail
    with_reducible refine HP.out.mono ?_
    rintro e w1 ⟨rfl, hb⟩
    have HB := Lib.hid hb
    clear hb HP
    go_wp2
    go_ret
    exact ⟨rfl, HB.out⟩
end Go.Proofs.YtclnkboejbnfnaaGreatDoor

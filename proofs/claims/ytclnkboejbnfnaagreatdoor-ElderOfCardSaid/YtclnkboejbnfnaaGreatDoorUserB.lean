/-
  Rows that rise, addresses as they are folded, users that are the same, users taken up, groups that a user is in.
  Conditions: texts and rows are no longer than they may be; the library's own variable MaxLen holds some number.
-/
import Derived.Test.YtclnkboejbnfnaaGreatDoorUser
import Derived.BigQuiet
namespace Go.Proofs.YtclnkboejbnfnaaGreatDoor
open Go.RowKit

/-- The bytes of two texts stand in their order, the first one ahead. -/
def ahead6 (a b : ByteArray) : Bool := decide (Lib.compareBytes a.data.toList b.data.toList < 0)
/-- Each stands above the one ahead. -/
def rise6 : List ByteArray → Bool
  | [] => true
  | [_] => true
  | a :: b :: l => ahead6 a b && rise6 (b :: l)

theorem rise6_bad : ∀ (ss : List ByteArray) (k : Nat) (h : k + 1 < ss.length), ahead6 ss[k] ss[k + 1] = false → rise6 ss = false
  | [], k, h, _ => by simp at h
  | [_], k, h, _ => by simp at h
  | a :: b :: l, 0, h, hq => by
    have hq' : ahead6 a b = false := hq
    show (ahead6 a b && rise6 (b :: l)) = false
    rw [hq']; rfl
  | a :: b :: l, k + 1, h, hq => by
    show (ahead6 a b && rise6 (b :: l)) = false
    rw [rise6_bad (b :: l) k (by simpa using h) hq]
    simp
theorem rise6_all : ∀ (ss : List ByteArray), (∀ k (h : k + 1 < ss.length), ahead6 ss[k] ss[k + 1] = true) → rise6 ss = true
  | [], _ => rfl
  | [_], _ => rfl
  | a :: b :: l, hq => by
    show (ahead6 a b && rise6 (b :: l)) = true
    have h0 : ahead6 a b = true := hq 0 (by simp)
    rw [h0, rise6_all (b :: l) (fun k h => hq (k + 1) (by simpa using h))]
    rfl

set_option maxRecDepth 100000 in
theorem rising6_calls (Aa : Option Addr) (n c : Nat) (ss : List ByteArray) (w : World) (hl : n = ss.length) (hr : RdS w Aa ss) (hm : n ≤ 9223372036854775807) :
    Calls Tryz.prog 206 #[.slice Aa n c] w fun e w' => e = .returned (.int .i64 (err5 (rise6 ss) 9)) ∧ ∃ q, w' = w.drewN q := by
  have HR := Lib.hid hr
  have HL := Lib.hid hl
  clear hr hl
  obtain ⟨r, hr⟩ : ∃ r, r = err5 (rise6 ss) 9 := ⟨_, rfl⟩
  rw [← hr]
  have HE := Lib.hid hr
  clear hr
  go_enter Tryz.func206, Tryz.ntmps206
  go_wp2
  go_loopg [3] n (fun gg s3 wr => ∃ k : Nat, (k ≤ n ∨ k = 1) ∧ 1 ≤ k ∧ n - k ≤ gg ∧ s3 = .int .i64 k ∧ (∃ q, wr = w.drewN q) ∧ Hid (∀ j (h : j + 1 < ss.length), j + 1 < k → ahead6 ss[j] ss[j + 1] = true))
  case atStart => exact ⟨1, .inr rfl, Nat.le_refl _, by omega, rfl, ⟨0, rfl⟩, fun j _ hj => absurd hj (by omega)⟩
  case round =>
    obtain ⟨k, hk, hk1, hg, rfl, ⟨q, hq⟩, A⟩ := hrel
    have HQ := Lib.hid hq
    have HW : Hid (RdS wr Aa ss) := by rw [hq]; exact HR.out.below (below_drewN (Below.refl w.heap.size w) q)
    clear hq
    by_cases hlt : k < n
    · have hltz : (k : Int) < (n : Int) := by omega
      have hkl : k < ss.length := HL.out ▸ hlt
      have hkl' : k - 1 < ss.length := by omega
      obtain ⟨b, off, hA, hcell⟩ := HW.out.at6 k hkl
      obtain ⟨b', off', hA', hcell'⟩ := HW.out.at6 (k - 1) hkl'
      obtain ⟨rfl, rfl⟩ : b' = b ∧ off' = off := by
        rw [hA] at hA'
        simp at hA'
        exact ⟨hA'.1.symm, hA'.2.symm⟩
      subst hA
      have zk : (k : Int) - 1 = ((k - 1 : Nat) : Int) := by omega
      have z1 : ((k - 1 : Nat) : Int) < (n : Int) := by omega
      have hcw : ∀ i, (wr.drewN i).cell? ⟨b', off' + k, none⟩ = some (.string ss[k]) := fun i => hcell
      have hcw' : ∀ i, (wr.drewN i).cell? ⟨b', off' + (k - 1), none⟩ = some (.string ss[k - 1]) := fun i => hcell'
      have HX : Hid (ahead6 ss[k - 1] ss[k] = true → ∀ j (h : j + 1 < ss.length), j + 1 < k + 1 → ahead6 ss[j] ss[j + 1] = true) := fun hq j h hj => by
        by_cases e : j = k - 1
        · subst e
          have e2 : k - 1 + 1 = k := by omega
          have : ss[k - 1 + 1] = ss[k] := by congr 1
          rw [this]; exact hq
        · exact A.out j h (by omega)
      have HF : Hid (ahead6 ss[k - 1] ss[k] = false → r = 9) := fun hf => by
        rw [HE.out]
        have : rise6 ss = false := rise6_bad ss (k - 1) (by omega) (by
          have : ss[k - 1 + 1] = ss[k] := by congr 1; omega
          rw [this]; exact hf)
        rw [this]; rfl
      have HC : Hid (∀ W, Calls Tryz.prog 118 #[.string ss[k - 1], .string ss[k]] W fun e w' => e = .returned (.int .i64 (Lib.compareBytes ss[k - 1].data.toList ss[k].data.toList)) ∧ w' = W) := fun W => compare_calls _ _ W
      have HD : Hid (ahead6 ss[k - 1] ss[k] = decide (Lib.compareBytes ss[k - 1].data.toList ss[k].data.toList < 0)) := rfl
      generalize Lib.compareBytes ss[k - 1].data.toList ss[k].data.toList = cm at *
      generalize ahead6 ss[k - 1] ss[k] = q6 at *
      generalize ss[k] = x at *
      generalize ss[k - 1] = y at *
      clear A hcell hcell'
      have hwr : IntKind.i64.wrap ((k - 1 : Nat) : Int) = ((k - 1 : Nat) : Int) := IntWalk.i64_in _ (by omega)
      by_cases hc : cm < 0
      · have hq : q6 = true := by rw [HD.out, decide_eq_true hc]
        have HY := Lib.hid (HX.out hq)
        have hcd : decide (cm ≥ 0) = false := decide_eq_false (by omega)
        have hc2 : ¬ cm ≥ 0 := by omega
        have hc3 : ¬ 0 ≤ cm := by omega
        clear HX HF HD hq
        go_wp2
        go_quiet (first | (go_at_call 118; exact Calls.quiet_of_same (HC.out _)))
        go_wp2
        go_roundg (n - (k + 1))
        case measure => omega
        case rel => exact ⟨k + 1, .inl (by omega), by omega, by omega, by go_num, ⟨q + nq, by rw [HQ.out, World.drewN_drewN]⟩, HY⟩
      · have hq : q6 = false := by rw [HD.out, decide_eq_false hc]
        have hr9 : r = 9 := HF.out hq
        subst hr9
        have hc2 : cm ≥ 0 := by omega
        have hc3 : 0 ≤ cm := by omega
        clear HX HF HD hq
        go_wp2
        go_quiet (first | (go_at_call 118; exact Calls.quiet_of_same (HC.out _)))
        go_wp2
        go_ret
        exact ⟨rfl, q + nq, by rw [HQ.out, World.drewN_drewN]⟩
    · have hltz : ¬ (k : Int) < (n : Int) := by omega
      have hr0 : r = 0 := by
        rw [HE.out]
        have : rise6 ss = true := rise6_all ss (fun j h => A.out j h (by have := HL.out; omega))
        rw [this]; rfl
      subst hr0
      clear A
      go_wp2
      go_ret
      exact ⟨rfl, q, HQ.out⟩

/-- An address as it is kept, or none. -/
def fold6 (m : ByteArray) : Bool := decide (m.size = 0) || (mail5 m.data.toList && decide (mailT m.data.toList = m))

theorem toList_ne6 {s t : ByteArray} (h : s ≠ t) : s.toList ≠ t.toList := by
  intro e
  apply h
  rw [ByteArray.toList_eq, ByteArray.toList_eq] at e
  exact ByteArray.ext (Array.toList_inj.1 e)

theorem two_cells (w : World) (t : TypeId) (x y : Int) (j : Nat) (h : j < [x, y].length) : (w.alloc (.cells #[.int .i64 x, .int .i64 y] t)).cell? ⟨w.heap.size, j, none⟩ = some (.int .i64 [x, y][j]) := by
  rw [World.cell?_alloc_at _ _ _ _ rfl]
  match j, h with
  | 0, _ => rfl
  | 1, _ => rfl

set_option maxRecDepth 100000 in
theorem folded6_calls (m : ByteArray) (w : World) (hs : m.size ≤ 9223372036854775807) (hm : Len5 w) :
    Calls Tryz.prog 203 #[.string m] w (Errs5 (err5 (fold6 m) 11) w) := by
  by_cases h0 : m.size = 0
  · obtain rfl : m = ⟨#[]⟩ := by
      obtain ⟨d⟩ := m
      obtain rfl : d = #[] := Array.eq_empty_of_size_eq_zero h0
      rfl
    show Calls _ _ _ _ (Errs5 0 w)
    go_enter Tryz.func203, Tryz.ntmps203
    go_wp2
    go_ret
    exact ⟨rfl, Below.refl _ _⟩
  · have hne : ¬ m.toList = [] := fun e => h0 (by rw [← size_list, ← ByteArray.toList_eq, e]; rfl)
    have hne2 : m.toList.isEmpty = false := by simpa using hne
    have HM := Lib.hid (mail_calls m w hs hm)
    have hf : fold6 m = (mail5 m.data.toList && decide (mailT m.data.toList = m)) := by
      unfold fold6
      rw [decide_eq_false h0, Bool.false_or]
    rw [hf]
    clear hf hm hs
    generalize mail5 m.data.toList = b at *
    generalize mailT m.data.toList = t at *
    obtain ⟨r, hr⟩ : ∃ r, r = err5 (b && decide (t = m)) 11 := ⟨_, rfl⟩
    rw [← hr]
    have HU : Hid (∀ b w, Calls Tryz.prog 250 #[.bool b, .int .i64 11] w fun e w' => e = .returned (.int .i64 (err5 b 11)) ∧ w' = w) := fun b w => unless6_calls b 11 w
    have HF : Hid (∀ (x y : Int) (W : World), Calls Tryz.prog 200 #[.slice (some ⟨W.heap.size, 0, none⟩) 2 2] (W.alloc (.cells #[.int .i64 x, .int .i64 y] 29)) fun e w' => e = .returned (.int .i64 (first6 [x, y])) ∧ w' = W.alloc (.cells #[.int .i64 x, .int .i64 y] 29)) :=
      fun x y W => first6_calls _ 2 2 [x, y] _ rfl (by omega) (two_cells W _ x y)
    have HR : Hid (∀ c : Bool, c = decide (t = m) → r = first6 [err5 b 11, err5 c 11]) := fun c hc => by
      rw [hr, hc]
      cases b <;> by_cases h : t = m <;> simp [h, err5, first6]
    clear hr h0
    by_cases h : t = m
    · have hr := HR.out true (by simp [h])
      have HR2 := Lib.hid hr
      subst h
      clear hr HR
      go_enter Tryz.func203, Tryz.ntmps203
      go_wp2_with fail
      with_reducible refine HM.out.mono ?_
      rintro e w1 ⟨rfl, hb⟩
      have HB := Lib.hid hb
      clear hb HM
      go_wp2_with fail
      with_reducible refine (HU.out true _).mono ?_
      rintro e w2 ⟨rfl, rfl⟩
      generalize err5 true 11 = e2 at *
      go_wp2_with fail
      with_reducible refine (HF.out (err5 b 11) e2 _).mono ?_
      rintro e w3 ⟨rfl, rfl⟩
      have hr := HR2.out
      rw [← hr]
      clear hr HR2
      go_wp2
      go_ret
      exact ⟨rfl, below_alloc HB.out _⟩
    · have hr := HR.out false (by simp [h])
      have HR2 := Lib.hid hr
      have htn := toList_ne6 h
      have htn2 : (t.toList == m.toList) = false := by simpa using htn
      clear hr HR h
      go_enter Tryz.func203, Tryz.ntmps203
      go_wp2_with fail
      with_reducible refine HM.out.mono ?_
      rintro e w1 ⟨rfl, hb⟩
      have HB := Lib.hid hb
      clear hb HM
      go_wp2_with fail
      with_reducible refine (HU.out false _).mono ?_
      rintro e w2 ⟨rfl, rfl⟩
      generalize err5 false 11 = e2 at *
      go_wp2_with fail
      with_reducible refine (HF.out (err5 b 11) e2 _).mono ?_
      rintro e w3 ⟨rfl, rfl⟩
      have hr := HR2.out
      rw [← hr]
      clear hr HR2
      go_wp2
      go_ret
      exact ⟨rfl, below_alloc HB.out _⟩
end Go.Proofs.YtclnkboejbnfnaaGreatDoor

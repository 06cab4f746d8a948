/-
  Mail and Compare of package name, as plain functions on bytes.
  Conditions: texts are no longer than a text may be; the library's own variable MaxLen holds some number.
-/
import Derived.Test.YtclnkboejbnfnaaGreatDoorFold
import Derived.Test.YtclnkboejbnfnaaGreatDoorNameMath
import Derived.Test.YtclnkboejbnfnaaGreatDoorShelf
namespace Go.Proofs.YtclnkboejbnfnaaGreatDoor
open Go.RowKit

/-- The library's variable MaxLen holds a number. -/
def Len5 (w : World) : Prop := 0 < w.heap.size ∧ ∃ m, w.cell? ⟨0, 0, none⟩ = some (.int .i64 m)
theorem Len5.later {w W : World} (h : Len5 w) (hb : Below w.heap.size w W) : Len5 W :=
  ⟨Nat.lt_of_lt_of_le h.1 hb.size, by obtain ⟨m, hm⟩ := h.2; exact ⟨m, (hb.cell (p := ⟨0, 0, none⟩) h.1).trans hm⟩⟩

/-- What a label is asked for. -/
def lab5 (l : List UInt8) : Bool := labP5 both5 l

theorem dom_pieces (s : ByteArray) : dom5 both5 s.data.toList =
    ((Lib.splitB ⟨#[46]⟩ 0 (Lib.countB s ⟨#[46]⟩) s).all (fun x => lab5 x.data.toList) && decide (2 ≤ Lib.countB s ⟨#[46]⟩ + 1)) := by
  have h1 := Lib.splitB_data ⟨#[46]⟩ 0 (Lib.countB s ⟨#[46]⟩) s
  have h2 : Lib.splitK [46] 0 (Lib.count s.data.toList [46]) s.data.toList = parts5 46 s.data.toList := split_parts 46 _ _ (Nat.le_refl _)
  have h3 : (Lib.splitB ⟨#[46]⟩ 0 (Lib.countB s ⟨#[46]⟩) s).map (·.data.toList) = parts5 46 s.data.toList := h1.trans h2
  have h4 := Lib.splitB_all ⟨#[46]⟩ (by decide) 0 (Lib.countB s ⟨#[46]⟩) s rfl
  unfold dom5
  rw [← h3, ← h4]
  simp [List.all_map, Function.comp_def, lab5]

theorem piece_size (sep : ByteArray) : ∀ (k : Nat) (s : ByteArray) (x : ByteArray), x ∈ Lib.splitB sep 0 k s → x.size ≤ s.size
  | 0, s, x, h => by simp [Lib.splitB] at h; subst h; exact Nat.le_refl _
  | k + 1, s, x, h => by
    unfold Lib.splitB at h
    split at h
    · simp at h; subst h; exact Nat.le_refl _
    · rcases List.mem_cons.1 h with rfl | h
      · simp; exact Nat.min_le_right _ _
      · have := piece_size sep k _ x h
        have e : (s.extract ((Lib.indexB s sep).toNat + sep.size) s.size).size ≤ s.size := by simp
        omega

theorem piece_cell (w : World) (l : List ByteArray) (t : TypeId) (j : Nat) (hj : j < l.length) :
    (w.alloc (.cells (l.map Value.string).toArray t)).cell? ⟨w.heap.size, j, none⟩ = some (.string l[j]) := by
  rw [World.cell?_alloc_at _ _ _ _ rfl]
  simp [hj]

set_option maxRecDepth 100000 in
theorem domain_calls (s : ByteArray) (w : World) (hs : s.size ≤ 1000) (hm : Len5 w) :
    Calls Tryz.prog 267 #[.string s] w (Tells5 (dom5 both5 s.data.toList) w) := by
  rw [dom_pieces]
  have hle := Lib.countB_le ⟨#[46]⟩ (by decide) s.size s (Nat.le_refl _)
  have hlen := Lib.splitB_all ⟨#[46]⟩ (by decide) 0 (Lib.countB s ⟨#[46]⟩) s rfl
  obtain ⟨h0, m, hm⟩ := hm
  have HC := Lib.hid (Tryz.strings_Split s ⟨#[46]⟩ m w (by omega) hm (by decide))
  have HPS : Hid (∀ x ∈ Lib.splitB ⟨#[46]⟩ 0 (Lib.countB s ⟨#[46]⟩) s, x.size ≤ 1000) := fun x hx => Nat.le_trans (piece_size _ _ _ x hx) hs
  generalize Lib.splitB ⟨#[46]⟩ 0 (Lib.countB s ⟨#[46]⟩) s = ps at *
  generalize hcn : Lib.countB s ⟨#[46]⟩ + 1 = n at *
  have hn : n ≤ 1001 := by omega
  have hpc := piece_cell w ps 9
  have hb1 := below_alloc (Below.refl w.heap.size w) (.cells (ps.map Value.string).toArray 9)
  have hB : w.heap.size < (w.alloc (.cells (ps.map Value.string).toArray 9)).heap.size := by simp
  generalize w.alloc (.cells (ps.map Value.string).toArray 9) = w1 at *
  generalize hBB : w.heap.size = B at HC hpc hB
  have HPC := Lib.hid hpc
  have HB1 := Lib.hid hb1
  have HB := Lib.hid hB
  have HL := Lib.hid hlen
  obtain ⟨r, hr⟩ : ∃ r, r = (ps.all (fun x => lab5 x.data.toList) && decide (2 ≤ n)) := ⟨_, rfl⟩
  rw [← hr]
  have HR := Lib.hid hr
  clear hpc hb1 hB hlen hcn hm h0 hle hBB hr
  go_enter Tryz.func267, Tryz.ntmps267
  go_wp2_with fail
  with_reducible refine HC.out.mono ?_
  rintro e w1' ⟨rfl, rfl⟩
  clear HC
  go_wp2
  go_loopg [5, 10] n (fun gg _ s10 wr => ∃ k : Nat, k ≤ n ∧ n - k ≤ gg ∧ s10 = .int .i64 k ∧ Hid (Below w1'.heap.size w1' wr) ∧ Hid (∀ j (h : j < ps.length), j < k → lab5 ps[j].data.toList = true))
  case atStart => exact ⟨0, Nat.zero_le _, by omega, rfl, Below.refl _ _, fun j _ hj => absurd hj (Nat.not_lt_zero _)⟩
  case round =>
    obtain ⟨k, hk, hg, rfl, HW, A⟩ := hrel
    by_cases hlt : k < n
    · have hltz : (k : Int) < (n : Int) := by omega
      have hkl : k < ps.length := by rw [HL.out]; exact hlt
      have hcell := (HW.out.cell (p := ⟨B, k, none⟩) HB.out).trans (HPC.out k hkl)
      have hsz := HPS.out ps[k] (List.getElem_mem hkl)
      have HLB : Hid (lab5 ps[k].data.toList = (decide (1 ≤ ps[k].size) && ps[k].data.toList.all both5)) := by
        show labP5 both5 _ = _
        unfold labP5
        rw [size_list]
      have HM := Lib.hid (List.getElem_mem hkl)
      have HA2 : Hid (lab5 ps[k].data.toList = true → ∀ j (h : j < ps.length), j < k + 1 → lab5 ps[j].data.toList = true) := fun hl j h hj => by
        by_cases e : j = k
        · subst e; exact hl
        · exact A.out j h (by omega)
      generalize ps[k] = x at *
      have HF : Hid (lab5 x.data.toList = false → r = false) := fun hf => by
        rw [HR.out]
        have : ps.all (fun x => lab5 x.data.toList) = false := List.all_eq_false.2 ⟨x, HM.out, by rw [hf]; simp⟩
        rw [this]; rfl
      have HBW := Lib.hid (below_next HB1.out HW.out)
      by_cases h0 : x.size = 0
      · have hne : x.toList = [] := by
          have : x.toList.length = 0 := by rw [ByteArray.toList_eq, size_list]; exact h0
          exact List.eq_nil_of_length_eq_zero this
        have hrf : r = false := HF.out (by rw [HLB.out, h0]; rfl)
        subst hrf
        clear HF
        go_wp2
        go_ret
        exact ⟨rfl, HBW.out⟩
      · have hne : ¬ x.toList = [] := fun e => h0 (by rw [← size_list, ← ByteArray.toList_eq, e]; rfl)
        have hne2 : x.toList.isEmpty = false := by simpa using hne
        have hlb : lab5 x.data.toList = x.data.toList.all both5 := by rw [HLB.out, decide_eq_true (by omega : 1 ≤ x.size), Bool.true_and]
        have HD := Lib.hid (both_calls wr)
        have HV : Hid (∀ g lb w, Asks (.func (.func g) #[] lb) both5 w → Calls Tryz.prog 237 #[.string x, .func (.func g) #[] lb] w fun e w' => e = .returned (.bool (x.data.toList.all both5)) ∧ ∃ q, w' = w.drewN q) :=
          fun g lb w ha => every_calls x g lb both5 w (by omega) ha
        rw [← hlb] at HV
        have HW2 : Hid (∀ w2 q, Below wr.heap.size wr w2 → Below w1'.heap.size w1' (w2.drewN q)) := fun w2 q hb => below_drewN (below_next HW.out hb) q
        have HBW2 : Hid (∀ w2 q, Below wr.heap.size wr w2 → Below w.heap.size w (w2.drewN q)) := fun w2 q hb => below_drewN (below_next HBW.out hb) q
        clear HLB hlb h0 HW HBW
        cases hq : lab5 x.data.toList with
        | true =>
          rw [hq] at HV
          have HX := Lib.hid (HA2.out hq)
          clear hq HF HA2 HBW2
          go_wp2_with fail
          with_reducible refine HD.out.mono ?_
          rintro e w2 ⟨g, lb, rfl, ha, hb⟩
          have HE := Lib.hid (HV.out g lb w2 ha)
          have HB2 := Lib.hid hb
          clear ha hb HV HD
          go_wp2_with (go_at_call 237; with_reducible refine HE.out.mono ?_; rintro e w3 ⟨rfl, q, rfl⟩)
          go_roundg (n - (k + 1))
          case measure => omega
          case rel => exact ⟨k + 1, by omega, by omega, by go_num, HW2.out _ _ HB2.out, HX⟩
        | false =>
          rw [hq] at HV
          have hrf : r = false := HF.out hq
          subst hrf
          clear hq HF HA2 HW2
          go_wp2_with fail
          with_reducible refine HD.out.mono ?_
          rintro e w2 ⟨g, lb, rfl, ha, hb⟩
          have HE := Lib.hid (HV.out g lb w2 ha)
          have HB2 := Lib.hid hb
          clear ha hb HV HD
          go_wp2_with (go_at_call 237; with_reducible refine HE.out.mono ?_; rintro e w3 ⟨rfl, q, rfl⟩)
          go_ret
          exact ⟨rfl, HBW2.out _ _ HB2.out⟩
    · have hltz : ¬ (k : Int) < (n : Int) := by omega
      obtain rfl : k = n := by omega
      have hra : r = decide ((k : Int) ≥ 2) := by
        rw [HR.out]
        have : ps.all (fun x => lab5 x.data.toList) = true := by
          rw [List.all_eq_true]
          intro x hx
          obtain ⟨j, hj, rfl⟩ := List.getElem_of_mem hx
          exact A.out j hj (by have := HL.out; omega)
        rw [this, Bool.true_and]
        by_cases h2 : 2 ≤ k
        · rw [decide_eq_true h2, decide_eq_true (by omega)]
        · rw [decide_eq_false h2, decide_eq_false (by omega)]
      have HBW := Lib.hid (below_next HB1.out HW.out)
      have HRA := Lib.hid hra
      clear hra HW
      go_wp2
      go_ret
      exact ⟨by rw [HRA.out]; rfl, HBW.out⟩

/-- What stands ahead of the first @, what behind it, and whether there is one. -/
def cut5 (l : List UInt8) : List UInt8 × List UInt8 × Bool := Lib.cut (fold5 l) [64]
/-- An address. -/
def mail5 (l : List UInt8) : Bool := decide (l.length ≤ 20) && (cut5 l).2.2 && name5 (cut5 l).1 && dom5 both5 (cut5 l).2.1
/-- The address, folded, or nothing. -/
def mailT (l : List UInt8) : ByteArray := if mail5 l then ⟨(fold5 l).toArray⟩ else ⟨#[]⟩
/-- An address is told, or an error. -/
def Mails5 (b : Bool) (t : ByteArray) (w : World) (e : Ending) (w' : World) : Prop := e = .returned (.tuple #[.string t, .int .i64 (err5 b 11)]) ∧ Below w.heap.size w w'

theorem fold5_length (l : List UInt8) : (fold5 l).length = l.length := by simp [fold5]

theorem cut_lengths (l sep : List UInt8) : (Lib.cut l sep).1.length ≤ l.length ∧ (Lib.cut l sep).2.1.length ≤ l.length := by
  unfold Lib.cut
  split <;> simp
  exact Nat.min_le_right _ _

set_option maxRecDepth 100000 in
theorem mail_calls (s : ByteArray) (w : World) (hs : s.size ≤ 9223372036854775807) (hm : Len5 w) :
    Calls Tryz.prog 241 #[.string s] w (Mails5 (mail5 s.data.toList) (mailT s.data.toList) w) := by
  by_cases h20 : s.size ≤ 20
  · have hm1 : mail5 s.data.toList = ((cut5 s.data.toList).2.2 && name5 (cut5 s.data.toList).1 && dom5 both5 (cut5 s.data.toList).2.1) := by
      unfold mail5
      rw [size_list, decide_eq_true h20, Bool.true_and]
    have hfl : (fold5 s.data.toList).length = s.size := by rw [fold5_length, size_list]
    have hl := cut_lengths (fold5 s.data.toList) [64]
    rw [hfl] at hl
    have HF := Lib.hid (fold_calls s w hs)
    have HCT : Hid (∀ w, Len5 w → Calls Tryz.prog 266 #[.string ⟨(fold5 s.data.toList).toArray⟩, .string ⟨#[64]⟩] w fun e w' => e = .returned (.tuple #[.string ⟨(cut5 s.data.toList).1.toArray⟩, .string ⟨(cut5 s.data.toList).2.1.toArray⟩, .bool (cut5 s.data.toList).2.2]) ∧ ∃ n, w' = w.drewN n) := fun w h => by
      obtain ⟨m, hm⟩ := h.2
      have := Tryz.strings_Cut ⟨(fold5 s.data.toList).toArray⟩ ⟨#[64]⟩ m w (by show (fold5 s.data.toList).toArray.size < _; rw [List.size_toArray, hfl]; omega) hm
      exact this
    have HNM : Hid (∀ w, Calls Tryz.prog 165 #[.string ⟨(cut5 s.data.toList).1.toArray⟩] w (Tells5 (name5 (cut5 s.data.toList).1) w)) := fun w =>
      name_calls ⟨(cut5 s.data.toList).1.toArray⟩ w (by show (cut5 s.data.toList).1.toArray.size ≤ _; rw [List.size_toArray]; exact Nat.le_trans hl.1 (by omega))
    have HDM : Hid (∀ w, Len5 w → Calls Tryz.prog 267 #[.string ⟨(cut5 s.data.toList).2.1.toArray⟩] w (Tells5 (dom5 both5 (cut5 s.data.toList).2.1) w)) := fun w h =>
      domain_calls ⟨(cut5 s.data.toList).2.1.toArray⟩ w (by show (cut5 s.data.toList).2.1.toArray.size ≤ _; rw [List.size_toArray]; exact Nat.le_trans hl.2 (by omega)) h
    unfold mailT
    rw [hm1]
    have HM := Lib.hid hm
    clear hm hl hfl hm1
    generalize (⟨(fold5 s.data.toList).toArray⟩ : ByteArray) = f at *
    generalize cut5 s.data.toList = c at *
    obtain ⟨c1, c2, b⟩ := c
    simp only at HCT HNM HDM ⊢
    generalize (⟨c1.toArray⟩ : ByteArray) = t1 at *
    generalize (⟨c2.toArray⟩ : ByteArray) = t2 at *
    generalize name5 c1 = bn at *
    generalize dom5 both5 c2 = bd at *
    generalize hn : s.size = n at *
    have z : ¬ (n : Int) > 20 := by omega
    have z' : ¬ 20 < n := by omega
    obtain ⟨r, hr⟩ : ∃ r : Bool, r = (b && bn && bd) := ⟨_, rfl⟩
    obtain ⟨rt, hrt⟩ : ∃ rt : ByteArray, rt = if (b && bn && bd) = true then f else ⟨#[]⟩ := ⟨_, rfl⟩
    rw [← hrt, ← hr]
    have HR := Lib.hid hr
    have HRT := Lib.hid hrt
    clear hr hrt
    go_enter Tryz.func241, Tryz.ntmps241
    go_wp2_with fail
    with_reducible refine HF.out.mono ?_
    rintro e w1 ⟨rfl, hb⟩
    have HB1 := Lib.hid hb
    have HC1 := Lib.hid (HCT.out w1 (HM.out.later hb))
    have HM1 := Lib.hid (HM.out.later hb)
    clear hb HF HCT
    go_wp2_with fail
    with_reducible refine HC1.out.mono ?_
    rintro e w2 ⟨rfl, q, rfl⟩
    have HB2 := Lib.hid (below_drewN HB1.out q)
    have HM2 := Lib.hid (HM1.out.later (below_drewN (Below.refl w1.heap.size w1) q))
    generalize w1.drewN q = w2 at *
    clear HC1 HB1 HM1
    cases b with
    | false =>
      have hr : r = false := HR.out
      have hrt : rt = ⟨#[]⟩ := HRT.out
      subst hr; subst hrt
      go_wp2
      go_ret2; exact ⟨rfl, HB2.out⟩
    | true =>
      have HN2 := Lib.hid (HNM.out w2)
      cases bn with
      | false =>
        have hr : r = false := HR.out
        have hrt : rt = ⟨#[]⟩ := HRT.out
        subst hr; subst hrt
        go_wp2_with fail
        with_reducible refine HN2.out.mono ?_
        rintro e w3 ⟨rfl, hb⟩
        have HB3 := Lib.hid (below_next HB2.out hb)
        clear hb
        go_wp2
        go_ret2; exact ⟨rfl, HB3.out⟩
      | true =>
        go_wp2_with fail
        with_reducible refine HN2.out.mono ?_
        rintro e w3 ⟨rfl, hb⟩
        have HB3 := Lib.hid (below_next HB2.out hb)
        have HD3 := Lib.hid (HDM.out w3 (HM2.out.later hb))
        clear hb HN2 HDM HNM
        go_wp2_with fail
        with_reducible refine HD3.out.mono ?_
        rintro e w4 ⟨rfl, hb⟩
        have HB4 := Lib.hid (below_next HB3.out hb)
        clear hb
        cases bd with
        | false =>
          have hr : r = false := HR.out
          have hrt : rt = ⟨#[]⟩ := HRT.out
          subst hr; subst hrt
          go_wp2
          go_ret2; exact ⟨rfl, HB4.out⟩
        | true =>
          have hr : r = true := HR.out
          have hrt : rt = f := HRT.out
          subst hr; subst hrt
          go_wp2
          go_ret2; exact ⟨rfl, HB4.out⟩
  · have hm1 : mail5 s.data.toList = false := by
      unfold mail5
      rw [size_list, decide_eq_false h20]; rfl
    have hm2 : mailT s.data.toList = ⟨#[]⟩ := by unfold mailT; rw [hm1]; rfl
    rw [hm1, hm2]
    clear hm1 hm2 hm
    generalize hn : s.size = n at *
    have z : (n : Int) > 20 := by omega
    have z' : 20 < n := by omega
    go_enter Tryz.func241, Tryz.ntmps241
    go_wp2
    go_ret2; exact ⟨rfl, Below.refl _ _⟩

set_option maxRecDepth 100000 in
theorem compare_calls (a b : ByteArray) (w : World) :
    Calls Tryz.prog 118 #[.string a, .string b] w fun e w' => e = .returned (.int .i64 (Lib.compareBytes a.data.toList b.data.toList)) ∧ w' = w := by
  have HC := Lib.hid (Tryz.strings_Compare a b w)
  generalize Lib.compareBytes a.data.toList b.data.toList = r at *
  go_enter Tryz.func118, Tryz.ntmps118
  go_wp2_with fail
  with_reducible refine HC.out.mono ?_
  rintro e w1 ⟨rfl, rfl⟩
  go_wp2
  go_ret
  exact ⟨rfl, rfl⟩
end Go.Proofs.YtclnkboejbnfnaaGreatDoor
